import PyProof.Rows.All
import Wide.All
import OpenK.AllK
import Wide.FinOn
import HandS.ForMost
import HandS.ClsMeth
import HandS.Defaults
import HandS.IsInst
import HandS.Star
import HandS.Codes
import HandS.RaiseMore
import HandS.Style
import KE.GoesEnum
import OpenK.KOps
import HandS.CallLocal
import HandS.Conv
import HandS.OwnEq
import KE.GoesZip
import KE.GoesMore
import HandS.Iter
import HandS.Comp
import PyProof.MeetsIn
import PyProof.EqKinds
import HandS.Exc
import HandS.ExcInit
import HandS.ExcOwn
import HandS.ExcField
import HandS.ExcIs
import HandS.WordsExc
import KE.KExcIs
import KE.KIsAll
import HandS.ExcCtx
import HandS.Hot
import HandS.HotCalls
import HandS.SuiteRaise
import HandS.RaiseFrom
import HandS.ExcInitHot
import KE.KDictKeyed
import HandS.CallSlots
import HandS.TupAny
import HandS.NoneIn
import HandS.Lambda
import HandS.Wide
import HandS.TupMul
import HandS.Deep
import HandS.Text
import HandS.SortInts
import PyProof.Rows.SortShellAny
import HandS.MakeKwOnly
import PyProof.StrBlock2
import HandS.HeadHook3
import KE.KDictDisplayH
import HandS.Property
import HandS.TupLe
import HandS.More
import PyProof.ReprRoads
import KE.KDictCopyH
import HandS.Nested
import KE.KNest
import HandS.EndTab
import HandS.EndOwn
import HandS.Ends
import PySem.Challenge.RW_outermost_k27_wishes_known
set_option Elab.async false
set_option linter.all false
set_option maxRecDepth 100000
set_option maxHeartbeats 4000000
section
/-! Own rules: str(x), x == y, x != y by an own class's methods (instances with a dict); C() without an __init__. -/
namespace Own
open PySem PySem.Spec PyProof.Rows L2

section
variable {prog : Program} {w : World} {M : Model} {A : Around} {E : Value → Shared → Prop} {s : Shared} {K : PySem.W.Frag} {x C f : Addr} {ox : Obj} {od : Option Obj}
end

/-! ### rules -/
/-- what str, ==, != and isinstance ask of an own class -/
structure OwnC (K : PySem.W.Frag) (C : Addr) (gs ge : Addr) : Prop where
  cl : Cls K C
  st : PySem.W.findIn K (.ref C) "__str__" = some (some (.ref gs))
  stf : PySem.W.isFn K (.ref gs) = true
  eq : PySem.W.findIn K (.ref C) "__eq__" = some (some (.ref ge))
  eqf : PySem.W.isFn K (.ref ge) = true
  ne : PySem.W.findIn K (.ref C) "__ne__" = some (some (.builtin "object.__ne__"))
  ca : PySem.W.findIn K (.ref C) "__class__" = some (some (.builtin "object.__class__"))
  cn : PySem.W.specialIn K (.builtin "object.__class__") "__get__" = some (some (.builtin "getset_descriptor.__get__"))
  ct : PySem.W.takesIn K (.builtin "object.__class__") = some true
  cm : PySem.W.mroIn K C (.type "object") = some true
section
variable {X : Cx} {CX : CXT} {pins : List (Addr × Obj)} {σ : L2.St} {H : Hp} {s : Shared} {gs ge : Addr} {n : Nat} {sp : Sp} {E : XK}
theorem run_at {A : Around} {g : Addr} {Q : VK} {us : List Value} {ws : List V} (F : FnR X.prog X.w X.K X.mg X.base CX n g sp) (hr : Room n A) (e0 : Env0 X.prog X.w X.K X.mg X.base A X.stack s H) (hx : Passes CX X E) (I : Inv X pins σ H s) (r : Vals ws us) (h : sp ws H Q E) :
    codeAny (model X.prog X.w) A (.call (.ref g) ⟨us, []⟩) (fun r s' => match r with | .ok (.ret v) => EP X pins σ Q v s' | .ok _ => False | .error e => X.xe e s') s := by
  refine codeAny_mono (F A X.stack s H us ws Q E hr e0 r h) fun r s' hq => ?_
  cases r with
  | error e => exact hx pins σ H s e s' I hq
  | ok fl =>
    cases fl with
    | ret u => exact I.after hq
    | next => exact False.elim hq
    | brk => exact False.elim hq
    | cont => exact False.elim hq
/-- str(x): x an instance of a class whose __str__ is at gs -/
def rStrOwn (K : PySem.W.Frag) (gs : Addr) (sp : Sp) (E : XK) : List V → Hp → VK → Prop := fun xs H Q => ∃ a C dx fs ge, xs = [V.ref a] ∧ H a = some (.ins C dx fs) ∧ OwnC K C gs ge ∧ sp [.ref a] H (fun z H' => ∃ y, z = .str y ∧ Q z H') E
theorem call_strOwn (F : FnR X.prog X.w X.K X.mg X.base CX n gs sp) (hr : Room (n + 2) X.A) (hx : Passes CX X E) : CallR X (.type "str") (rStrOwn X.K gs sp E) := by
  intro pins s σ H xs us Q I r h
  obtain ⟨a, C, dx, fs, ge, rfl, ea, c, q⟩ := h
  obtain ⟨u, rfl, ru⟩ := r.one
  cases (show u = Value.ref a from ru)
  obtain ⟨mA, O, rr, _, _, _⟩ := ins_get I.hok ea
  obtain ⟨od, J, hl⟩ := O.look
  have hr2 : Room n X.A.in1.in1 := (show Room (n + 1) X.A.in1 from Room.in1 hr).in1
  refine PySem.W.kso_call hr2.units0 I.kIn J c.st c.stf (wpAny_mono (wpAny_call (run_at (us := [.ref a]) (ws := [.ref a]) F hr2 I.env0.in1.in1 hx I (.cons rfl .nil) q)) (fun w s' z => ?_) fun _ _ x => x)
  obtain ⟨z', H', I', rz, y, ey, qz⟩ := z
  subst ey
  obtain ⟨t, e⟩ := (show ∃ t, w = Value.str y t from rz)
  cases e
  exact ⟨.str y, H', I', ⟨t, rfl⟩, qz⟩
end

/-! ### C() of a class without an __init__ -/
structure MkO (K : PySem.W.Frag) (C : Addr) : Prop where
  makes : PySem.W.makesIn K C = true
  init : PySem.W.findIn K (.ref C) "__init__" = some (some (.builtin "object.__init__"))
  kp : PySem.W.keepIn K (.ref C) = true
  cm : PySem.W.mroIn K C (.type "object") = some true
def tMakeO (C : Addr) : TE := fun _ H Q => ∀ x dx, H x = none → H dx = none → dx ≠ x → Q (.ref x) (upd (upd H dx (.own x)) x (.ins C dx []))
section
variable {X : Cx} {pins : List (Addr × Obj)} {σ : L2.St} {H : Hp} {s : Shared} {C : Addr} {x : Str} {p pos : Pos}
theorem run_makeO {Q : VK} (M : MkO X.K C) (I : Inv X pins σ H s) (h : tMakeO C σ H Q) : wpAny (model X.prog X.w) X.A (call (.ref C) []) (EP X pins σ Q) X.xe s := by
  have hq := h (s.heap.objs.size + 1) s.heap.objs.size (I.hok.fresh (Nat.le_succ _)) (I.hok.fresh (Nat.le_refl _)) (Nat.ne_of_lt (Nat.lt_succ_self _))
  have I2 := Inv.made (C := C) I
  have hx : ((s.heap.push PySem.W.emptyDict).push (PySem.W.instObj C s.heap.objs.size)).get? (s.heap.objs.size + 1) = some (PySem.W.instObj C s.heap.objs.size) := by
    have := Heap.get?_push_size (s.heap.push PySem.W.emptyDict) (o := PySem.W.instObj C s.heap.objs.size) rfl
    rwa [Heap.size_push] at this
  have t1 : PySem.W.Looks (model X.prog X.w) ((s.heap.push PySem.W.emptyDict).push (PySem.W.instObj C s.heap.objs.size)) (typeOf (.ref (s.heap.objs.size + 1))) (.ref C) := (PySem.W.Looks.ld hx).andThen .now
  refine wpAny_call (make_map0 I.kIn M.makes M.init (fun self => PySem.W.Looks.of_pure (PySem.W.oi_bind self)) ?_)
  refine codeAny_call_builtin PySem.W.oi_plain PySem.W.entry_oi (@PySem.W.check_slot (model X.prog X.w) _ _ _ "object.__init__" "object" "__init__" (.ref (s.heap.objs.size + 1)) [] [] _ PySem.W.oi_kind PySem.W.oi_split (t1.andThen (PySem.W.looks_mroIn I2.kIn M.cm)) (PySem.W.oi_args _) ?_)
  rw [PySem.W.oi_run]
  exact wpAny_pure (And.intro rfl ⟨V.ref (s.heap.objs.size + 1), _, I2, rfl, hq⟩)
theorem pe_makeO (M : MkO X.K C) (hg : Gl X x) (hm : X.mg x = some (.ref C)) (hdb : (x == ("__debug__" : Str)) = false := by decide) : PE X (.Call (.Name x p) [] [] pos) (tMakeO C) := by
  refine ⟨fun pins s σ H Q I h => ?_⟩
  refine wpAny_Call_Name_kw (ld_glob I hg hm ?_ hdb)
  exact PySem.W.callWith_K0 I.kIn M.kp (run_makeO M I h)
end
end Own
end
section
/-! enumerate over a tuple, in a for. -/
namespace Own
open PySem PySem.Spec PyProof.Rows L2
open Sem (wp)
open AutoSeq1 (wpAny_loadPart')
abbrev enumO (n : Nat) : Obj := { cls := .type "enumerate", data := .fields #[.none, .bool false, .ref n, rawInt 0, .none, .none] }
theorem enum_mk1 {v : Value} {o : Obj} {Hh : Heap → Prop} (B : Begins v o Hh) :
    Meets (Builtin.«enumerate.__new__» ⟨[.type "enumerate", v], []⟩) (fun _ R z => Hh z.heap ∧ R (.ok (.ret (.ref (z.heap.push o).objs.size))) { z with heap := (z.heap.push o).push (enumO z.heap.objs.size) }) :=
  .of_wp fun pr wo Ar Re sh hyp => by
    obtain ⟨hp, ge, dr, tok, osx⟩ := sh
    obtain ⟨hb, hre⟩ := hyp
    have sbt := sub_enumerate
    have itr : ∀ {Aa : Around} {Ee : Value → Shared → Prop} {Qq : Value → Shared → Prop}, Qq (.ref hp.objs.size) ⟨hp.push o, ge, dr, tok, osx⟩ → wpAny (model pr wo) Aa (pyIter v) Qq Ee ⟨hp, ge, dr, tok, osx⟩ := fun q => B.iter pr wo _ _ ⟨hp, ge, dr, tok, osx⟩ _ hb q
    wp_walk using itr
    refine wpAny_stack_any fun stk => wpAny_pure ?_
    split
    · rename_i cl _ _ _ _ _
      cases (cl == Value.type "enumerate") <;> (wp_walk using itr; exact ⟨_, rfl, hre⟩)
    · wp_walk using itr
      exact ⟨_, rfl, hre⟩

section
variable {prog : Program} {w : World} {A : Around} {E : Value → Shared → Prop} {s : Shared}
theorem call_enum1 {v : Value} {o : Obj} {Hh : Heap → Prop} {Q : Value → Shared → Prop} (B : Begins v o Hh) (hb : Hh s.heap)
    (h : ∀ hp', IsEnum hp' (s.heap.objs.size + 1) s.heap.objs.size 0 .none → hp'.get? s.heap.objs.size = some o → (∀ b u, s.heap.get? b = some u → hp'.get? b = some u) → Q (.ref (s.heap.objs.size + 1)) { s with heap := hp' }) :
    wpAny (model prog w) A (call (.type "enumerate") [v]) Q E s := by
  refine callType_new F.called_enumerate (by decide) (F.typeCall_enumerate_1 _) (F.newCall_enumerate_1 _) (fun ob => F.args_object_init_2 ob _) F.entry_enumerate_new (enum_mk1 B) ⟨hb, ?_⟩
  have sz : (s.heap.push o).objs.size = s.heap.objs.size + 1 := Heap.size_push ..
  have ie : IsEnum ((s.heap.push o).push (enumO s.heap.objs.size)) (s.heap.objs.size + 1) s.heap.objs.size 0 .none := by
    have z := Heap.get?_push_size (s.heap.push o) (o := enumO s.heap.objs.size) rfl
    rw [sz] at z
    exact z
  show _ ∧ _
  rw [sz]
  exact ⟨⟨_, ie, rfl⟩, h _ ie (Heap.get?_push_of_some _ (Heap.get?_push_size _ B.free)) fun b u x => Heap.get?_push_of_some _ (Heap.get?_push_of_some _ x)⟩
end
theorem drawsEnd {prog : Program} {w : World} {A : Around} (hh : A.handled = none) (it t : Addr) (items : Array Value) (n : Nat) (hn : items.size ≤ n) :
    Draws prog w A it [it, t] n (fun _ _ => False) (fun j h => h.IsTupleIter it t j ∧ h.IsTuple t items ∧ n ≤ j) where
  live := fun _ _ st => let ⟨o, ho, _⟩ := st.1; ⟨o, ho⟩
  frame := fun _ _ _ st hk => ⟨st.1.at fun o e => hk it (by simp) o e, st.2.1.at fun o e => hk t (by simp) o e, st.2.2⟩
  item := fun i s Q E hi st _ => absurd hi (Nat.not_lt.mpr st.2.2)
  done := fun s Q E st hE => wpAny_nextOf_tuple_end hh st.1 st.2.1 (by simp; omega) hE
/-- the tuple at a as it stands at each turn, each item in a new pair -/
def IteT (K : PySem.W.Frag) (a : Addr) : It :=
  ⟨fun i H => ∃ (xs : List V) (x : V), SqT K H a xs ∧ xs[i]? = some x,
   fun i H v H' => ∃ T x, v = .ref T ∧ H T = none ∧ H' = upd H T (.tup [.int (i : Nat), x]) ∧ ∀ xs, SqT K H a xs → xs[i]? = some x,
   fun i H => ∃ xs : List V, SqT K H a xs ∧ xs.length ≤ i⟩
theorem turn_enumT {P : Program} {w : World} {K : PySem.W.Frag} {elts : List Expr} {kk : Nat} {tpos : Pos} (a e it : Addr) :
    Turn P w K (.Tuple elts kk tpos) (IteT K a) [e, it] e (fun i h => (∃ old, IsEnum h e it ((i : Nat) : Int) old) ∧ h.IsTupleIter it a i ∧ e ≠ it) where
  mem := by simp
  obj := fun i h st b hb => by
    have z : b = e ∨ b = it := by simpa using hb
    have k := st.2.1
    obtain ⟨u, he⟩ := st.1
    cases z with
    | inl z => exact z ▸ ⟨_, he, fun v q => nomatch q⟩
    | inr z =>
      obtain ⟨ob, h1, _, h3⟩ := k
      exact z ▸ ⟨ob, h1, fun v q => nomatch h3.symm.trans q⟩
  keep := fun i h h' st k => by
    obtain ⟨⟨old, he⟩, ⟨o, ho, hr⟩, hne⟩ := st
    exact ⟨⟨old, k e (by simp) _ he⟩, ⟨o, k it (by simp) o ho, hr⟩, hne⟩
  item := by
    intro X hP hw hK hc i pins s σ H E I hf st hg
    subst hP hw hK
    obtain ⟨⟨old, he⟩, hit, hne⟩ := st
    obtain ⟨xs, x, hq, hx⟩ := hg
    obtain ⟨its, rv, p, hz⟩ := I.tuple hq
    obtain ⟨u, hu, ru⟩ := rv.get hx
    have le : e < s.heap.objs.size := Heap.lt_size he
    have li : it < s.heap.objs.size := by obtain ⟨_, q, _⟩ := hit; exact Heap.lt_size q
    have ait : a ≠ it := fun z => by
      obtain ⟨o, ho, hcl, _⟩ := hit
      obtain ⟨o2, ho2, hcl2, _⟩ := p
      have q : o = o2 := Option.some.inj (ho.symm.trans ((congrArg _ z.symm).trans ho2))
      subst q
      exact absurd (hcl.symm.trans hcl2) (by decide)
    have ae : e ≠ a := fun z => by
      obtain ⟨o2, ho2, hcl2, _⟩ := p
      have q := Option.some.inj ((show s.heap.get? e = some _ from he).symm.trans ((congrArg _ z).trans ho2))
      subst q
      exact absurd (show Value.type "enumerate" = Value.type "tuple" from hcl2) (by decide)
    have D := Draws.tuple (prog := X.prog) (w := X.w) (A := X.A.in1) (show X.A.in1.handled = none from I.ok.hd hc) it a ait its.toArray
    have hlt : i < its.toArray.size := by
      have q := (List.getElem?_eq_some_iff.mp hu).1
      simpa using q
    refine wpAny_pyNext_enum_itemD D he ⟨hit, p⟩ hlt hne (by simp [hne, ae]) fun y h' tk hP ho hit' hT hsz hk => ?_
    have ey : y = u := by
      have q : its.toArray[i]? = some u := by simpa using hu
      exact Option.some.inj (hP.symm.trans q)
    subst ey
    refine ⟨_, rfl, wpAny_letOwnedTupleGo_enum (s := { s with heap := h', toks := tk + 1 }) ho fun h2 he2 sb => ?_⟩
    have nel : s.heap.objs.size ≠ e := Nat.ne_of_gt le
    have new : ObjOk X.prog X.w (upd H s.heap.objs.size (.tup [.int (i : Nat), x])) h2 s.heap.objs.size (.tup [.int (i : Nat), x]) :=
      ⟨by show 2 ≤ sizeLine; decide, [.int i tk, y], .cons ⟨_, rfl⟩ (.cons ru .nil), ⟨_, (sb.2 _ nel).trans hT, rfl, _, rfl⟩⟩
    have J : Inv X pins σ (upd H s.heap.objs.size (.tup [.int (i : Nat), x])) { s with heap := h2, toks := tk + 1 } :=
      I.turnedNew (ch := [e, it]) (fun b ob hb q => (sb.2 b (fun z => hb (by simp [z]))).trans (hk b ob (fun z => hb (by simp [z])) (fun z => hb (by simp [z])) q)) hf (Nat.le_refl _) new
    obtain ⟨oi, hoi, hri⟩ := hit'.1
    refine ⟨.ref s.heap.objs.size, _, J, rfl, ⟨_, x, rfl, I.hok.fresh (Nat.le_refl _), rfl, fun ys hy => ?_⟩, ⟨⟨y, ?_⟩, ⟨oi, (sb.2 it (Ne.symm hne)).trans hoi, hri⟩, hne⟩, fun b hb => ?_⟩
    · rw [I.tuple_inj hy hq]
      exact hx
    · rw [(by omega : ((i + 1 : Nat) : Int) = (i : Int) + 1)]
      exact he2
    · have lb : b < s.heap.objs.size := by
        rcases (by simpa using hb : b = e ∨ b = it) with z | z <;> rw [z] <;> assumption
      rw [upd_ne (Nat.ne_of_lt lb)]
      exact (hf b hb).1
  done := by
    intro X hP hw hK hc i pins s σ H E I hf st hg
    subst hP hw hK
    have hit := st.2.1
    obtain ⟨u, he⟩ := st.1
    obtain ⟨xs, hq, hx⟩ := hg
    obtain ⟨its, rv, p, hz⟩ := I.tuple hq
    have hl := rv.length
    have D := drawsEnd (prog := X.prog) (w := X.w) (A := X.A.in1) (show X.A.in1.handled = none from I.ok.hd hc) it a its.toArray i (by simp; omega)
    obtain ⟨f0, f1, f2, f3, f4, f5⟩ := hf it (by simp)
    exact wpAny_pyNext_enum_endD D he ⟨hit, p, Nat.le_refl _⟩ fun h' eb => ⟨rfl, I.turned (t' := s.toks) (fun b o hb q => eb b o hb q) f0 f1 f3 f4 f5⟩
  self := fun A i s Q E st h => let ⟨⟨_, he⟩, _⟩ := st; wpAny_pyIter_enum he h
/-- enumerate of a list or of a tuple -/
def iEnumS (K : PySem.W.Frag) (ta : TA) : TI := fun σ H R => ta σ H fun vs H1 => ∃ a xs, vs = [.ref a] ∧ ((SqL K H1 a xs ∧ R (Ite K a) H1) ∨ (SqT K H1 a xs ∧ R (IteT K a) H1))
theorem pi_enumS {X : Cx} {e : Expr} {ta : TA} {p pos tpos : Pos} {elts : List Expr} {kk : Nat} (hg : Gl X "enumerate") (hm : X.mg "enumerate" = none) (ha : PA X [e] ta) (hs : starEach [e] X.env = [(false, eval e X.env)] := by rfl) :
    PI X (.Tuple elts kk tpos) (.Call (.Name "enumerate" p) [e] [] pos) (iEnumS X.K ta) := ⟨fun pins s σ H R I h => by
  refine Call_ (ld_blt I hg hm boot_enumerate (PyProof.Rows.callWith_type1 (thn (ha.run pos pins s σ H _ I h) fun us s1 w1 => ?_) hs rfl))
  obtain ⟨vs, H1, J, rr, a, xs, ex, q⟩ := w1
  subst ex
  have ru : us = [.ref a] := by
    cases rr with
    | cons r t => cases t; cases r; rfl
  subst ru
  have fpe : ∀ b ∈ [s1.heap.objs.size + 1, s1.heap.objs.size], FpOk X pins H1 b := fun b hb => by
    have hle : s1.heap.objs.size ≤ b := by
      have z : b = s1.heap.objs.size + 1 ∨ b = s1.heap.objs.size := by simpa using hb
      omega
    exact J.fpOk hle (J.hok.fresh hle)
  rcases q with ⟨hq, q⟩ | ⟨hq, q⟩
  · obtain ⟨its, rv, pl, hz⟩ := J.list hq
    exact call_enumerate_list pl.isList fun h' he hit hsz hk => wpAny_pyIter_enum he
      ⟨s1.heap.objs.size + 1, [s1.heap.objs.size + 1, s1.heap.objs.size], _, _, H1, rfl, (J.kept (t' := s1.toks) hk : Inv X pins σ H1 { s1 with heap := h' }), turn_enum a (s1.heap.objs.size + 1) s1.heap.objs.size, ⟨⟨.none, he⟩, hit, Nat.succ_ne_self _⟩, fpe, q⟩
  · obtain ⟨its, rv, pl, hz⟩ := J.tuple hq
    refine call_enum1 (begins_tuple a its.toArray) pl fun h' he hit hk => wpAny_pyIter_enum he ?_
    exact ⟨s1.heap.objs.size + 1, [s1.heap.objs.size + 1, s1.heap.objs.size], _, _, H1, rfl, (J.kept (t' := s1.toks) hk : Inv X pins σ H1 { s1 with heap := h' }), turn_enumT a (s1.heap.objs.size + 1) s1.heap.objs.size, ⟨⟨.none, he⟩, ⟨_, hit, rfl, rfl⟩, Nat.succ_ne_self _⟩, fpe, q⟩⟩
end Own
end
section
/-! More own rules: len(x) by an own __len__, a class that a local holds, lists and tuples by isinstance, walks over enumerate. -/
namespace Own
open PySem PySem.Spec PyProof.Rows L2
section
variable {X : Cx} {CX : CXT} {pins : List (Addr × Obj)} {σ : L2.St} {H : Hp} {s : Shared} {gl : Addr} {n : Nat} {sp : Sp} {E : XK}
end
/-! ### C(..), C a class that a local holds -/
section
variable {X : Cx} {CX : CXT} {k i : Nat} {C f : Addr} {fd : FuncData} {ps : List Str} {sp : Sp} {dvs : List V} {ds : List Value} {E : XK} {x : Str} {p pos : Pos} {e : Expr} {es : List Expr} {t : TA}
end
/-! ### lists and tuples -/
end Own
end
section
/-! Own rules: x + y by an own __add__, x[i] by an own __getitem__. -/
namespace Own
open PySem PySem.Spec PyProof.Rows L2
section
variable {X : Cx} {CX : CXT} {f : Addr} {n : Nat} {sp : Sp} {E : XK}
end
/-! ### x += y where the class has an own __add__ and no __iadd__ -/
section
variable {prog : Program} {w : World} {A : Around} {E : Value → Shared → Prop} {s : Shared} {K : PySem.W.Frag} {x C L f : Addr} {h₀ : Heap} {m : Str → Option Value} {ox : Obj} {od : Option Obj}
end
section
variable {X : Cx} {CX : CXT} {f : Addr} {n : Nat} {sp : Sp} {E : XK}
end
end Own
end
section
/-! == and != of lists whose items are compared by an own __eq__: both answers. -/
namespace Own
open PySem PySem.SeqAt
open AutoSeq1 (wpAny_loadPart')
open MeetsSeq MeetsSeq2 MeetsSeq3 SeqRoads2
section
variable {prog : Program} {w : World} {A : Around} {R : Result → Shared → Prop}
end
section
variable {prog : Program} {w : World} {A : Around} {E : Value → Shared → Prop} {s : Shared}
end
end Own
end
section
/-! == and != of lists of own things, as rules: both answers. -/
namespace Own
open PySem PySem.Spec PyProof.Rows L2
/-- what == of two values answers, by the abstract heap -/
abbrev EqvB := V → V → Hp → Bool → Prop
section
variable {X : Cx} {n : Nat} {D : EqvB}
end
end Own
end
section
/-! zip of a tuple and a list. -/
namespace Own
open PySem PySem.Spec PyProof.Rows L2
end Own
end
section
/-! a if t else b, as a test. -/
namespace Own
open PySem PySem.Spec PyProof.Rows L2
end Own
end
section
/-! x in (a text, a tuple, None), x of an own class whose __eq__ says no: the reflected comparison. -/
namespace Own
open PySem PySem.Spec PyProof.Rows L2 PySem.SeqAt
open AutoSeq1 (wpAny_loadPart')
open MeetsSeq MeetsSeq2 MeetsSeq3 SeqRoads2
section
variable {prog : Program} {w : World} {A : Around} {E : Value → Shared → Prop} {s : Shared} {K : PySem.W.Frag} {x C f : Addr} {od : Option Obj}
end
section
variable {X : Cx} {CX : CXT} {ge : Addr} {n : Nat} {sp : Sp} {E : XK}
end
end Own
end
section
/-! Own rules for errors with fields: a classmethod that may raise, isinstance of what was caught, repr of texts and of None. -/
namespace Own
open PySem PySem.Spec PyProof.Rows L2 ClX
section
variable {X : Cx} {CX : CXT} {k : Nat} {C p g : Addr} {mc : Value} {sp : Sp} {E : L2.St → XK} {o e : Expr} {es : List Expr} {m : Str} {pos apos : Pos} {ta : TE} {t : TA} {pl : Sem Bool}
/-- C.m(..), which may raise: what leaves may speak of the locals -/
def tCMethS (C : Addr) (sp : Sp) (E : L2.St → XK) (ta : TE) (t : TA) : TE := fun σ H Q => ta σ H fun x G => x = .ref C ∧ t σ G fun ws G' => sp (.ref C :: ws) G' Q (E σ)
theorem pe_cmethS (hO : PE X o ta) (hR : CRead X.K C mc) (hM : CMet X.K C mc m p g) (F : FnR X.prog X.w X.K X.mg X.base CX k g sp) (hr : Room k X.A) (hx : ∀ σ, PassesAt CX X σ (E σ)) (hA : PA X (e :: es) t)
    (h1 : starEach (e :: es) X.env = (false, eval e X.env) :: starEach es X.env := by rfl) (h2 : (backTo pos (starEach es X.env)).any (·.1) = false := by rfl)
    (h3 : eval (.Call (.Attribute o m apos) (e :: es) [] pos) X.env = (do
      let it ← eval o X.env
      standAt apos.atName
      let (fn, ahead) ← holding [it] (getMethod it m pl)
      callWith pos fn ahead (backTo pos (starEach (e :: es) X.env)) (backToKw pos (keywordEach [] X.env))) := by rfl) : PE X (.Call (.Attribute o m apos) (e :: es) [] pos) (tCMethS C sp E ta t) := by
  constructor
  intro pins s σ H Q I h
  refine PySem.W.methodCall_KW (pl := pl) (thn (hO.run pins s σ H _ I h) fun u s1 z => ?_) h3
  obtain ⟨x, G, J, rx, ex, q⟩ := z
  subst ex
  cases (show u = Value.ref C from rx)
  refine getmethcm_ok J hR hM fun s2 J2 => ?_
  refine callwith_cm J2 (base_none J (Nat.le_refl _)) hM.fi (thn (hA.run pos _ s2 σ G _ J2 q) fun us s3 y => ?_) h1 h2
  obtain ⟨ws, G2, J3, rv, q2⟩ := y
  refine ⟨⟨pin_at J3, J3.kIn⟩, ?_⟩
  have back : wpAny (model X.prog X.w) X.A (call (.ref s1.heap.objs.size) us) (EP X ((s1.heap.objs.size, PySem.W.methodObj (.ref g) (.ref C)) :: pins) σ Q) X.xe s3 := by
    refine wpAny_call (PySem.W.method_call (pin_at J3) (codeAny_mono (F X.A X.stack s3 G2 (.ref C :: us) (.ref C :: ws) Q (E σ) hr J3.env0 (.cons rfl rv) q2) fun r s4 z => ?_))
    match r, z with
    | .error err, z => exact hx σ _ G2 s3 err s4 J3 z
    | .ok (.ret v), z => exact J3.after z
    | .ok .next, z => exact z.elim
    | .ok .brk, z => exact z.elim
    | .ok .cont, z => exact z.elim
  exact thn back fun _ _ y => unpinE y
end
section
variable {X : Cx}
end
end Own
end
section
/-! Own rules for any values: a class made whose __init__ may raise; enumerate of a list or a tuple in a comprehension. -/
namespace Own
open PySem PySem.Spec PyProof.Rows L2
section
variable {X : Cx} {CX : CXT} {k : Nat} {f C : Addr} {fd : FuncData} {ps : List Str} {sp : Sp} {dvs : List V} {ds : List Value} {E : L2.St → XK} {x : Str} {p pos : Pos} {e : Expr} {es : List Expr} {t : TA}
theorem run_makeS {pins : List (Addr × Obj)} {σ : L2.St} {H : Hp} {s : Shared} {Q : VK} {us : List Value} {vs : List V} (M : Mk X.K C f) (F : FnOk X.prog X.w X.K X.mg X.base CX k f fd ps sp) (hr : Room (k + 1) X.A) (hb : Binds X.K fd ps ds) (hd : Vals dvs ds)
    (hx : PassesAt CX X σ (E σ)) (I : Inv X pins σ H s) (r : Vals vs us)
    (h : ∀ x dx, H x = none → H dx = none → dx ≠ x → sp (.ref x :: (vs ++ dvs)) (upd (upd H dx (.own x)) x (.ins C dx [])) (fun v H2 => v = .non ∧ Q (.ref x) H2) (E σ)) :
    wpAny (model X.prog X.w) X.A (call (.ref C) us) (EP X pins σ Q) X.xe s := by
  have hq := h (s.heap.objs.size + 1) s.heap.objs.size (I.hok.fresh (Nat.le_succ _)) (I.hok.fresh (Nat.le_refl _)) (Nat.ne_of_lt (Nat.lt_succ_self _))
  have I2 := Inv.made (C := C) I
  have r2 : Vals (V.ref (s.heap.objs.size + 1) :: (vs ++ dvs)) (Value.ref (s.heap.objs.size + 1) :: (us ++ ds)) := .cons rfl (r.append hd)
  have hl : (Value.ref (s.heap.objs.size + 1) :: us ++ ds).length = ps.length := by
    have e := r2.length
    rw [F.len _ _ _ _ hq] at e
    exact e.symm
  refine wpAny_call (make_map (f := f) I.kIn M.makes M.init (beq_iff_eq.mp M.fn) (codeAny_mono (F.run _ X.stack _ _ ⟨Value.ref (s.heap.objs.size + 1) :: us, []⟩ (Value.ref (s.heap.objs.size + 1) :: (us ++ ds)) _ _ (E σ) (hr.make C us [])
    (I2.env0.make C us []) (hb _ (Value.ref (s.heap.objs.size + 1) :: us) I2.kIn hl) r2 hq) fun r s' hq' => ?_))
  cases r with
  | error e => exact hx pins _ _ e s' I2 hq'
  | ok fl =>
    cases fl with
    | ret u =>
      obtain ⟨v, H', I3, rv, ev, q3⟩ := I2.after hq'
      subst ev
      exact ⟨rv, ⟨V.ref (s.heap.objs.size + 1), H', I3, rfl, q3⟩⟩
    | next => exact False.elim hq'
    | brk => exact False.elim hq'
    | cont => exact False.elim hq'
/-- C(..), whose __init__ may raise -/
def tMakeS (C : Addr) (sp : Sp) (dvs : List V) (E : L2.St → XK) (t : TA) : TE := fun σ H Q => t σ H fun vs H1 => ∀ x dx, H1 x = none → H1 dx = none → dx ≠ x →
  sp (.ref x :: (vs ++ dvs)) (upd (upd H1 dx (.own x)) x (.ins C dx [])) (fun v H2 => v = .non ∧ Q (.ref x) H2) (E σ)
theorem pe_makeS (M : Mk X.K C f) (F : FnOk X.prog X.w X.K X.mg X.base CX k f fd ps sp) (hr : Room (k + 1) X.A) (hg : Gl X x) (hm : X.mg x = some (.ref C)) (hb : Binds X.K fd ps ds) (hd : Vals dvs ds) (hx : ∀ σ, PassesAt CX X σ (E σ))
    (ha : PA X (e :: es) t) (hdb : (x == ("__debug__" : Str)) = false := by decide) (he : starEach (e :: es) X.env = (false, eval e X.env) :: starEach es X.env := by rfl) (hpl : (backTo pos (starEach es X.env)).any (·.1) = false := by rfl) :
    PE X (.Call (.Name x p) (e :: es) [] pos) (tMakeS C sp dvs E t) := by
  refine ⟨fun pins s σ H Q I h => ?_⟩
  refine wpAny_Call_Name_kw (ld_glob I hg hm ?_ hdb)
  refine PySem.W.callWith_K (h₀ := X.base) I.ok.mod.kin M.kp (thn (ha.run pos pins s σ H _ I h) fun us s1 ⟨vs, H1, I1, r, q⟩ => ⟨I1.kIn, ?_⟩) he hpl
  exact run_makeS M F hr hb hd (hx σ) I1 r q
end
end Own
end
section
/-! Own rules for errors made and raised where nothing is handled (their context None), and again in an except suite. -/
namespace Own
open PySem PySem.Spec PyProof.Rows L2
section
variable {P : Program} {w : World} {K : PySem.W.Frag} {mg : Str → Option Value} {base : Heap}
end
section
variable {X : Cx} {CX : CXT} {x : Str} {C g : Addr} {k : Nat} {fd : FuncData} {ps : List Str} {sp : Sp} {ds : List Value} {dvs : List V} {e : Expr} {es : List Expr} {ta : TA} {p pos : Pos}
end
end Own
end
section
/-! Own rule: xs[::k] where k is an expression whose value is -1. -/
namespace Own
open PySem PySem.Spec PyProof.Rows L2
section
variable {X : Cx}
end
end Own
end
section
/-! Vs: a reading by values. What is never changed again is a tree (T), what changes is an object of a store (MO, by number); a def is a function of trees and stores. -/
namespace Vs
open PySem PySem.Spec PyProof.Rows L2

/-- the program and the world whose dicts are spoken of -/
class WW where
  p : Program
  w : World
  /-- what is never changed and is known from the beginning -/
  g : Hp
  /-- the tables of code objects: each with the name of its lambda -/
  tb : List (Addr × Str)
/-! ### trees, slots, stores -/
inductive T where
  | non | bl (b : Bool) | int (i : Int) | str (x : Str)
  | lst (xs : List T) | tup (xs : List T) | seq (xs : List T)
  | ins (C : Addr) (fs : List (Str × T))
  | cst (v : V)
inductive Sl where
  | val (t : T)
  | own (i : Nat)
/-- what may change: a list; a dict by texts; an instance; a list that holds what may change; a dict by tuples of any depth; nothing any more -/
inductive MO where
  | lst (xs : List T)
  | rcd (fs : List (Str × Sl))
  | ins (C : Addr) (fs : List (Str × Sl))
  | lsO (xs : List Sl)
  | dct (kvs : List (T × T))
  | dctL (kvs : List (T × T))
  | dead
inductive Out (α : Type) where
  | ok (a : α)
  | ex (C : Addr) (fs : List (Str × T))
abbrev M (α : Type) := Option (Out α × List MO)
structure S where
  ρ : List (Option Sl)
  m : List MO
def bM {α β : Type} (x : M α) (f : α → List MO → M β) : M β := match x with
  | none => none
  | some (.ok a, m) => f a m
  | some (.ex C fs, m) => some (.ex C fs, m)
abbrev rM {α : Type} (a : α) (m : List MO) : M α := some (.ok a, m)

/-! ### what they stand for -/
mutual
inductive Rp (K : PySem.W.Frag) (F : Hp) : V → T → Prop
  | non : Rp K F .non .non
  | bl (b : Bool) : Rp K F (.bl b) (.bl b)
  | int (i : Int) : Rp K F (.int i) (.int i)
  | str (x : Str) : Rp K F (.str x) (.str x)
  | lst {a : Addr} {xs : List V} {ts : List T} : F a = some (.lst xs) → RpL K F xs ts → Rp K F (.ref a) (.lst ts)
  | seq {a : Addr} {xs : List V} {ts : List T} : SqL K F a xs → RpL K F xs ts → Rp K F (.ref a) (.seq ts)
  | tup {a : Addr} {xs : List V} {ts : List T} : SqT K F a xs → RpL K F xs ts → Rp K F (.ref a) (.tup ts)
  | ins {a C dx : Addr} {vs : List (Str × V)} {fs : List (Str × T)} : F a = some (.ins C dx vs) → RpF K F vs fs → Rp K F (.ref a) (.ins C fs)
  | cst (v : V) : Rp K F v (.cst v)
inductive RpL (K : PySem.W.Frag) (F : Hp) : List V → List T → Prop
  | nil : RpL K F [] []
  | cons {v : V} {vs : List V} {t : T} {ts : List T} : Rp K F v t → RpL K F vs ts → RpL K F (v :: vs) (t :: ts)
inductive RpF (K : PySem.W.Frag) (F : Hp) : List (Str × V) → List (Str × T) → Prop
  | nil : RpF K F [] []
  | cons {x : Str} {v : V} {vs : List (Str × V)} {t : T} {ts : List (Str × T)} : Rp K F v t → RpF K F vs ts → RpF K F ((x, v) :: vs) ((x, t) :: ts)
end
section
variable {K : PySem.W.Frag} {F F' : Hp}
theorem sqT_same {a : Addr} {xs : List V} (e : Same F F') (h : SqT K F a xs) : SqT K F' a xs := h.elim (fun h => .inl (h.elim (fun h => .inl (e _ _ h)) fun ⟨o, h⟩ => .inr ⟨o, e _ _ h⟩)) .inr
mutual
theorem Rp.same (e : Same F F') : ∀ {v : V} {t : T}, Rp K F v t → Rp K F' v t
  | _, _, .non => .non
  | _, _, .bl b => .bl b
  | _, _, .int i => .int i
  | _, _, .str x => .str x
  | _, _, .lst h r => .lst (e _ _ h) (RpL.same e r)
  | _, _, .seq h r => .seq (e.seq h) (RpL.same e r)
  | _, _, .tup h r => .tup (sqT_same e h) (RpL.same e r)
  | _, _, .ins h r => .ins (e _ _ h) (RpF.same e r)
  | _, _, .cst v => .cst v
theorem RpL.same (e : Same F F') : ∀ {vs : List V} {ts : List T}, RpL K F vs ts → RpL K F' vs ts
  | _, _, .nil => .nil
  | _, _, .cons h r => .cons (Rp.same e h) (RpL.same e r)
theorem RpF.same (e : Same F F') : ∀ {vs : List (Str × V)} {ts : List (Str × T)}, RpF K F vs ts → RpF K F' vs ts
  | _, _, .nil => .nil
  | _, _, .cons h r => .cons (Rp.same e h) (RpF.same e r)
end
theorem RpL.length : ∀ {vs : List V} {ts : List T}, RpL K F vs ts → vs.length = ts.length
  | _, _, .nil => rfl
  | _, _, .cons _ r => by rw [List.length_cons, List.length_cons, RpL.length r]
theorem RpL.append : ∀ {vs ws : List V} {ts us : List T}, RpL K F vs ts → RpL K F ws us → RpL K F (vs ++ ws) (ts ++ us)
  | _, _, _, _, .nil, h => h
  | _, _, _, _, .cons a r, h => .cons a (RpL.append r h)
theorem RpL.take : ∀ {vs : List V} {ts : List T} (n : Nat), RpL K F vs ts → RpL K F (vs.take n) (ts.take n)
  | _, _, 0, _ => by rw [List.take_zero, List.take_zero]; exact .nil
  | _, _, n + 1, .nil => .nil
  | _, _, n + 1, .cons a r => .cons a (RpL.take n r)
theorem RpL.drop : ∀ {vs : List V} {ts : List T} (n : Nat), RpL K F vs ts → RpL K F (vs.drop n) (ts.drop n)
  | _, _, 0, r => r
  | _, _, n + 1, .nil => .nil
  | _, _, n + 1, .cons _ r => RpL.drop n r
theorem RpL.get : ∀ {vs : List V} {ts : List T} {i : Nat} {t : T}, RpL K F vs ts → ts[i]? = some t → ∃ v, vs[i]? = some v ∧ Rp K F v t
  | _, _, i, t, .nil, e => by simp at e
  | _, _, 0, t, .cons a r, e => by
    rw [List.getElem?_cons_zero] at e
    cases e
    exact ⟨_, rfl, a⟩
  | _, _, i + 1, t, .cons a r, e => by
    rw [List.getElem?_cons_succ] at e
    obtain ⟨v, h1, h2⟩ := RpL.get r e
    exact ⟨v, by rw [List.getElem?_cons_succ]; exact h1, h2⟩
theorem RpL.reverse : ∀ {vs : List V} {ts : List T}, RpL K F vs ts → RpL K F vs.reverse ts.reverse
  | _, _, .nil => .nil
  | _, _, .cons a r => by
    rw [List.reverse_cons, List.reverse_cons]
    exact (RpL.reverse r).append (.cons a .nil)
theorem RpF.lookup : ∀ {vs : List (Str × V)} {ts : List (Str × T)} {x : Str} {t : T}, RpF K F vs ts → ts.lookup x = some t → ∃ v, vs.lookup x = some v ∧ Rp K F v t
  | _, _, x, t, .nil, e => by cases e
  | _, _, x, t, .cons (x := y) a r, e => by
    rw [List.lookup_cons] at e ⊢
    cases h : x == y with
    | true => rw [h] at e; cases e; exact ⟨_, rfl, a⟩
    | false => rw [h] at e; exact RpF.lookup r e
end
/-! a key -/
mutual
def nkOf : T → Option NestedKey
  | .non => some .none
  | .bl b => some (.num (if b = true then 1 else 0))
  | .int i => some (.num i)
  | .str x => some (.text x)
  | .tup ts => match nksOf ts with
    | some ks => some (.tup ks)
    | none => none
  | _ => none
def nksOf : List T → Option (List NestedKey)
  | [] => some []
  | t :: r => match nkOf t, nksOf r with
    | some k, some ks => some (k :: ks)
    | _, _ => none
end
/-- a dict object by such keys -/
def DN (p : Program) (w : World) (a : Addr) (xs : List (NestedKey × Addr × Value)) : HO := .ext fun h => ∃ o es ep, h.get? a = some o ∧ o.ExactDict ∧ o.data = .dict es ep ∧ es.toList = xs.map (entryOfKey (nestedKind p w)) ∧ (xs.map (·.1)).Nodup ∧ xs.length ≤ sizeLine ∧ (a == sysModules) = false
/-- its pairs, as trees -/
def DRel (K : PySem.W.Frag) (F : Hp) : List (T × T) → List (NestedKey × Addr × Value) → Prop := Paired fun p q => nkOf p.1 = some q.1 ∧ q.1.depth ≤ 8 ∧ Rp K F (.ref q.2.1) p.1 ∧ ∃ v, RelV v q.2.2 ∧ Rp K F v p.2
theorem DRel.same {K : PySem.W.Frag} {F F' : Hp} (e : Same F F') : ∀ {kvs : List (T × T)} {xs : List (NestedKey × Addr × Value)}, DRel K F kvs xs → DRel K F' kvs xs
  | _, _, .nil => .nil
  | _, _, .cons ⟨h1, h2, h3, v, h4, h5⟩ r => .cons ⟨h1, h2, h3.same e, v, h4, h5.same e⟩ (DRel.same e r)
/-- a slot's value -/
def RpS (K : PySem.W.Frag) (F : Hp) (α : List Addr) (v : V) : Sl → Prop
  | .val t => Rp K F v t
  | .own i => ∃ a, α[i]? = some a ∧ v = .ref a
inductive RpG (K : PySem.W.Frag) (F : Hp) (α : List Addr) : List (Str × V) → List (Str × Sl) → Prop
  | nil : RpG K F α [] []
  | cons {x : Str} {v : V} {vs : List (Str × V)} {t : Sl} {ts : List (Str × Sl)} : RpS K F α v t → RpG K F α vs ts → RpG K F α ((x, v) :: vs) ((x, t) :: ts)
inductive RpSs (K : PySem.W.Frag) (F : Hp) (A : List Addr) : List V → List Sl → Prop
  | nil : RpSs K F A [] []
  | cons {v : V} {vs : List V} {t : Sl} {ts : List Sl} : RpS K F A v t → RpSs K F A vs ts → RpSs K F A (v :: vs) (t :: ts)
variable [WW]
def kvs (vs : List (Str × V)) : List (Key × V) := vs.map fun p => (.inr p.1, p.2)
def MRep (K : PySem.W.Frag) (F : Hp) (α : List Addr) (H : Hp) (a : Addr) : MO → Prop
  | .lst ts => F a = none ∧ ∃ xs, H a = some (.lst xs) ∧ RpL K F xs ts
  | .rcd fs => F a = none ∧ ∃ vs, H a = some (.dK (kvs vs)) ∧ RpG K F α vs fs
  | .ins C fs => F a = none ∧ ∃ dx vs, H a = some (.ins C dx vs) ∧ RpG K F α vs fs
  | .lsO ss => F a = none ∧ ∃ xs, H a = some (.lst xs) ∧ RpSs K F α xs ss
  | .dct ps => F a = none ∧ ∃ xs, H a = some (DN WW.p WW.w a xs) ∧ DRel K F ps xs
  | .dctL ps => ∃ od xs, F a = some (.frz od (DN WW.p WW.w a xs)) ∧ DRel K F ps xs
  | .dead => True
section
variable {K : PySem.W.Frag} {F F' : Hp} {α α' : List Addr}
theorem pre_get {i : Nat} {a : Addr} (p : α <+: α') (h : α[i]? = some a) : α'[i]? = some a := by
  obtain ⟨β, rfl⟩ := p
  have hi : i < α.length := (List.getElem?_eq_some_iff.mp h).1
  rw [List.getElem?_append_left hi]
  exact h
theorem RpS.next (e : Same F F') (p : α <+: α') {v : V} {s : Sl} (h : RpS K F α v s) : RpS K F' α' v s := by
  cases s with
  | val t => exact Rp.same e h
  | own i =>
    obtain ⟨a, h1, h2⟩ := h
    exact ⟨a, pre_get p h1, h2⟩
theorem RpG.next (e : Same F F') (p : α <+: α') : ∀ {vs : List (Str × V)} {ts : List (Str × Sl)}, RpG K F α vs ts → RpG K F' α' vs ts
  | _, _, .nil => .nil
  | _, _, .cons h r => .cons (h.next e p) (RpG.next e p r)
theorem RpSs.next (e : Same F F') (p : α <+: α') : ∀ {vs : List V} {ss : List Sl}, RpSs K F α vs ss → RpSs K F' α' vs ss
  | _, _, .nil => .nil
  | _, _, .cons h r => .cons (h.next e p) (RpSs.next e p r)
theorem MRep.next (e : Same F F') (p : α <+: α') {H H' : Hp} {a : Addr} (k : ∀ o, H a = some o → H' a = some o) (f : F a = none → F' a = none) {o : MO} (h : MRep K F α H a o) : MRep K F' α' H' a o := by
  cases o with
  | lst ts => obtain ⟨z, xs, h1, h2⟩ := h; exact ⟨f z, xs, k _ h1, h2.same e⟩
  | rcd fs => obtain ⟨z, xs, h1, h2⟩ := h; exact ⟨f z, xs, k _ h1, h2.next e p⟩
  | ins C fs => obtain ⟨z, dx, xs, h1, h2⟩ := h; exact ⟨f z, dx, xs, k _ h1, h2.next e p⟩
  | lsO ss => obtain ⟨z, xs, h1, h2⟩ := h; exact ⟨f z, xs, k _ h1, h2.next e p⟩
  | dct ps => obtain ⟨z, xs, h1, h2⟩ := h; exact ⟨f z, xs, k _ h1, DRel.same e h2⟩
  | dctL ps => obtain ⟨od, xs, h1, h2⟩ := h; exact ⟨od, xs, e _ _ h1, DRel.same e h2⟩
  | dead => trivial
theorem MRep.nextT (e : Same F F') (p : α <+: α') {H H' : Hp} {a : Addr} (k : ∀ o, H a = some o → (∀ ps, o ≠ .tbl ps) → H' a = some o) (f : F a = none → F' a = none) {o : MO} (h : MRep K F α H a o) : MRep K F' α' H' a o := by
  cases o with
  | lst ts => obtain ⟨z, xs, h1, h2⟩ := h; exact ⟨f z, xs, k _ h1 (fun _ z => by cases z), h2.same e⟩
  | rcd fs => obtain ⟨z, xs, h1, h2⟩ := h; exact ⟨f z, xs, k _ h1 (fun _ z => by cases z), h2.next e p⟩
  | ins C fs => obtain ⟨z, dx, xs, h1, h2⟩ := h; exact ⟨f z, dx, xs, k _ h1 (fun _ z => by cases z), h2.next e p⟩
  | lsO ss => obtain ⟨z, xs, h1, h2⟩ := h; exact ⟨f z, xs, k _ h1 (fun _ z => by cases z), h2.next e p⟩
  | dct ps => obtain ⟨z, xs, h1, h2⟩ := h; exact ⟨f z, xs, k _ h1 (fun _ z => by unfold DN at z; cases z), DRel.same e h2⟩
  | dctL ps => obtain ⟨od, xs, h1, h2⟩ := h; exact ⟨od, xs, e _ _ h1, DRel.same e h2⟩
  | dead => trivial
end
/-- a table: each code object that it tells is known and bears the name q -/
def TabF (F H : Hp) (P : Addr) (q : Str) : Prop := F P = none ∧ ∃ ps : Array Value, H P = some (.tbl ps) ∧ TriplesOk ps.toList ∧ ∀ (pos : Pos) (cv : Value), codeAmong pos ps.toList = some cv → ∃ c, cv = .ref c ∧ F c = some (LamX.CodeO c q)
theorem TabF.next {F F' H H' : Hp} {P : Addr} {q : Str} (t : TabF F H P q) (e : Same F F') (f : F' P = none) (k : ∀ o, H P = some o → H' P = some o) : TabF F' H' P q := by
  obtain ⟨_, ps, h1, h2, h3⟩ := t
  refine ⟨f, ps, k _ h1, h2, fun pos cv hc => ?_⟩
  obtain ⟨c, e1, e2⟩ := h3 pos cv hc
  exact ⟨c, e1, e _ _ e2⟩
theorem TabF.some_ {F H : Hp} {P : Addr} {q : Str} (t : TabF F H P q) : ∃ u, H P = some u := let ⟨_, _, h, _⟩ := t; ⟨_, h⟩
/-- the objects of a store stand in the heap, apart from what is never changed -/
structure Objs (K : PySem.W.Frag) (F : Hp) (α : List Addr) (m : List MO) (H : Hp) : Prop where
  sub : Same F H
  len : α.length = m.length
  nd : α.Nodup
  there : ∀ a ∈ α, ∃ o, H a = some o
  obj : ∀ (i : Nat) (a : Addr) (o : MO), α[i]? = some a → m[i]? = some o → MRep K F α H a o
  gho : Same WW.g F
  tab : ∀ p ∈ WW.tb, p.1 ∉ α ∧ TabF F H p.1 p.2
/-- .. and the slots -/
structure Wd (K : PySem.W.Frag) (F : Hp) (α : List Addr) (ρ : List (Option Sl)) (m : List MO) (σ : L2.St) (H : Hp) : Prop where
  os : Objs K F α m H
  slot : ∀ (i : Nat) (r : Sl), ρ[i]? = some (some r) → ∃ v, σ[i]? = some (some v) ∧ RpS K F α v r
  slen : ρ.length = σ.length
/-- from one state to a later one -/
structure Nxt (F : Hp) (α : List Addr) (H : Hp) (F' : Hp) (α' : List Addr) (H' : Hp) : Prop where
  sub : Same F F'
  pre : α <+: α'
  fresh : ∀ a o, F' a = some o → F a = some o ∨ H a = none ∨ a ∈ α
  news : ∀ a ∈ α', a ∈ α ∨ H a = none
  keepT : ∀ a o, H a = some o → a ∉ α → (∃ ps, o = .tbl ps ∧ ∃ qs, H' a = some (.tbl qs)) ∨ H' a = some o
/-- all but a table stays -/
theorem Nxt.keep {F : Hp} {α : List Addr} {H F' : Hp} {α' : List Addr} {H' : Hp} (n : Nxt F α H F' α' H') (a : Addr) (o : HO) (h : H a = some o) (ha : a ∉ α) (hn : ∀ ps, o ≠ .tbl ps := by (intro _ z; cases z)) : H' a = some o :=
  (n.keepT a o h ha).elim (fun ⟨ps, z, _⟩ => absurd z (hn ps)) id
theorem Nxt.stays {F : Hp} {α : List Addr} {H F' : Hp} {α' : List Addr} {H' : Hp} (n : Nxt F α H F' α' H') (a : Addr) (o : HO) (h : H a = some o) (ha : a ∉ α) : ∃ u, H' a = some u :=
  (n.keepT a o h ha).elim (fun ⟨_, _, qs, z⟩ => ⟨_, z⟩) fun z => ⟨_, z⟩
section
variable {K : PySem.W.Frag} {F F1 F2 : Hp} {α α1 α2 : List Addr} {H H1 H2 : Hp}
theorem Nxt.refl : Nxt F α H F α H := ⟨Same.refl _, List.prefix_refl _, fun _ _ h => .inl h, fun _ h => .inl h, fun _ _ h _ => .inr h⟩
theorem Nxt.trans (a : Nxt F α H F1 α1 H1) (b : Nxt F1 α1 H1 F2 α2 H2) : Nxt F α H F2 α2 H2 where
  sub := a.sub.trans b.sub
  pre := List.IsPrefix.trans a.pre b.pre
  fresh := fun x o h => by
    rcases b.fresh x o h with h | h | h
    · exact a.fresh x o h
    · by_cases hx : x ∈ α
      · exact .inr (.inr hx)
      · cases e : H x with
        | none => exact .inr (.inl rfl)
        | some u => obtain ⟨v, ev⟩ := a.stays x u e hx; rw [ev] at h; cases h
    · rcases a.news x h with h | h
      · exact .inr (.inr h)
      · exact .inr (.inl h)
  news := fun x h => by
    rcases b.news x h with h | h
    · exact a.news x h
    · by_cases hx : x ∈ α
      · exact .inl hx
      · cases e : H x with
        | none => exact .inr rfl
        | some u => obtain ⟨v, ev⟩ := a.stays x u e hx; rw [ev] at h; cases h
  keepT := fun x o h hx => by
    have nx : x ∉ α1 := fun h1 => by
      rcases a.news x h1 with z | z
      · exact hx z
      · rw [z] at h; cases h
    rcases a.keepT x o h hx with ⟨ps, rfl, qs, e⟩ | e
    · rcases b.keepT x _ e nx with ⟨_, _, rs, e2⟩ | e2
      · exact .inl ⟨ps, rfl, rs, e2⟩
      · exact .inl ⟨ps, rfl, qs, e2⟩
    · exact b.keepT x o e nx
end
section
variable {K : PySem.W.Frag} {F F' : Hp} {α : List Addr} {ρ : List (Option Sl)} {m : List MO} {σ : L2.St} {H H' : Hp} {p : Addr} {o : HO}
theorem same_new {H : Hp} {p : Addr} {o : HO} (h : H p = none) : Same H (upd H p o) := fun b u e => by
  rw [upd_ne (ne_of_none e h)]; exact e
theorem Objs.notin (h : Objs K F α m H) (np : H p = none) : p ∉ α := fun z => by
  obtain ⟨o, e⟩ := h.there p z
  rw [np] at e; cases e
theorem Objs.fnone (h : Objs K F α m H) (np : H p = none) : F p = none := Same.free h.sub np
theorem same_upd2 (h : Same F H) : Same (upd F p o) (upd H p o) := fun b u e => by
  by_cases z : b = p
  · subst z; rw [upd_same] at e ⊢; exact e
  · rw [upd_ne z] at e ⊢; exact h b u e
/-- a new thing that is never changed -/
theorem Objs.new (h : Objs K F α m H) (np : H p = none) : Objs K (upd F p o) α m (upd H p o) where
  sub := same_upd2 h.sub
  len := h.len
  nd := h.nd
  there := fun a ha => by
    obtain ⟨u, e⟩ := h.there a ha
    exact ⟨u, by rw [upd_ne (ne_of_none e np)]; exact e⟩
  obj := fun i a u h1 h2 => by
    obtain ⟨w, e⟩ := h.there a (List.mem_of_getElem? h1)
    have ne := ne_of_none e np
    exact (h.obj i a u h1 h2).next (same_new (h.fnone np)) (List.prefix_refl _) (fun o e => by rw [upd_ne ne]; exact e) (fun e => by rw [upd_ne ne]; exact e)
  gho := h.gho.trans (same_new (h.fnone np))
  tab := fun q hq => by
    obtain ⟨h1, h2⟩ := h.tab q hq
    obtain ⟨u, e⟩ := h2.some_
    have ne := ne_of_none e np
    exact ⟨h1, h2.next (same_new (h.fnone np)) (by rw [upd_ne ne]; exact h2.1) (fun o e => by rw [upd_ne ne]; exact e)⟩
/-- a new thing that is nobody's -/
theorem Objs.keep (h : Objs K F α m H) (np : H p = none) : Objs K F α m (upd H p o) where
  sub := h.sub.trans (same_new np)
  len := h.len
  nd := h.nd
  there := fun a ha => by
    obtain ⟨u, e⟩ := h.there a ha
    exact ⟨u, by rw [upd_ne (ne_of_none e np)]; exact e⟩
  obj := fun i a u h1 h2 => (h.obj i a u h1 h2).next (Same.refl _) (List.prefix_refl _) (fun o e => by rw [upd_ne (ne_of_none e np)]; exact e) id
  gho := h.gho
  tab := fun q hq => ⟨(h.tab q hq).1, (h.tab q hq).2.next (Same.refl _) (h.tab q hq).2.1 (fun o e => by rw [upd_ne (ne_of_none e np)]; exact e)⟩
/-- a new list becomes an object of the store -/
theorem Objs.add {xs : List V} {ts : List T} (h : Objs K F α m H) (fp : F p = none) (na : p ∉ α) (e : H p = some (.lst xs)) (r : RpL K F xs ts) : Objs K F (α ++ [p]) (m ++ [.lst ts]) H where
  sub := h.sub
  len := by rw [List.length_append, List.length_append, h.len]; rfl
  nd := List.nodup_append.mpr ⟨h.nd, (by simp), fun a ha b hb z => by rw [List.mem_singleton.mp hb] at z; exact na (z ▸ ha)⟩
  there := fun a ha => (List.mem_append.mp ha).elim (h.there a) fun z => by rw [List.mem_singleton.mp z]; exact ⟨_, e⟩
  obj := fun i a u h1 h2 => by
    by_cases hi : i < α.length
    · rw [List.getElem?_append_left hi] at h1
      rw [List.getElem?_append_left (h.len ▸ hi)] at h2
      exact (h.obj i a u h1 h2).next (Same.refl _) (List.prefix_append _ _) (fun o e => e) id
    · rw [List.getElem?_append_right (Nat.le_of_not_lt hi)] at h1
      rw [List.getElem?_append_right (h.len ▸ Nat.le_of_not_lt hi), ← h.len] at h2
      cases z : i - α.length with
      | zero =>
        rw [z] at h1 h2
        cases h1
        cases h2
        exact ⟨fp, xs, e, r⟩
      | succ n => rw [z] at h1; cases h1
  gho := h.gho
  tab := fun q hq => by
    refine ⟨fun z => ?_, (h.tab q hq).2⟩
    rcases List.mem_append.mp z with z | z
    · exact (h.tab q hq).1 z
    · obtain ⟨_, ps, e2, _⟩ := (h.tab q hq).2
      rw [List.mem_singleton.mp z, e] at e2
      cases e2
theorem Wd.of (h : Wd K F α ρ m σ H) {F2 : Hp} {α2 : List Addr} {m2 : List MO} {H2 : Hp} (e : Same F F2) (p : α <+: α2) (o : Objs K F2 α2 m2 H2) : Wd K F2 α2 ρ m2 σ H2 :=
  ⟨o, fun i r z => let ⟨v, h1, h2⟩ := h.slot i r z; ⟨v, h1, h2.next e p⟩, h.slen⟩
theorem Nxt.new (h : Objs K F α m H) (np : H p = none) : Nxt F α H (upd F p o) α (upd H p o) where
  sub := same_new (h.fnone np)
  pre := List.prefix_refl _
  fresh := fun a u e => by
    by_cases z : a = p
    · subst z; exact .inr (.inl np)
    · rw [upd_ne z] at e; exact .inl e
  news := fun a ha => .inl ha
  keepT := fun a u e _ => .inr (by rw [upd_ne (ne_of_none e np)]; exact e)
/-- a thing of the heap is frozen -/
theorem Objs.tabFrz (h : Objs K F α m H) (fp : F p = none) (e : H p = some o) (no : ∀ ps, o ≠ .tbl ps := by (intro _ z; cases z)) : ∀ q ∈ WW.tb, q.1 ∉ α ∧ TabF (upd F p o) H q.1 q.2 := fun q hq => by
  obtain ⟨h1, h2⟩ := h.tab q hq
  obtain ⟨f1, ps, e2, h3, h4⟩ := h2
  have ne : q.1 ≠ p := fun z => by
    rw [z, e] at e2
    exact no ps (Option.some.inj e2)
  exact ⟨h1, TabF.next ⟨f1, ps, e2, h3, h4⟩ (same_new fp) (by rw [upd_ne ne]; exact f1) (fun _ z => z)⟩
end
/-- a result is as the function says: what is wanted of a value, of an error -/
def Got {α β : Type} (K : PySem.W.Frag) (W : WX) (σ : L2.St) (ρ : List (Option Sl)) (F : Hp) (A : List Addr) (H : Hp) (Rel : Hp → List Addr → Hp → β → α → Prop) (r : M α) (Q : β → Hp → Prop) : Prop :=
  ∃ o m', r = some (o, m') ∧ match o with
    | .ok a => ∀ F' A' b H', Nxt F A H F' A' H' → Wd K F' A' ρ m' σ H' → Rel F' A' H' b a → Q b H'
    | .ex C fs => ∀ F' A' d vs H', Nxt F A H F' A' H' → Wd K F' A' ρ m' σ H' → RpF K F' vs fs → H' d = some (.xd vs) → W (.ref C) (some d) σ H'
section
variable {α β γ δ : Type} {K : PySem.W.Frag} {W : WX} {σ : L2.St} {ρ : List (Option Sl)} {F F1 : Hp} {A A1 : List Addr} {H H1 : Hp} {R1 : Hp → List Addr → Hp → β → α → Prop} {R2 : Hp → List Addr → Hp → δ → γ → Prop} {x : M α} {f : α → List MO → M γ} {Q : δ → Hp → Prop}
theorem Got.later {r : M γ} (h : Got K W σ ρ F A H R2 r Q) (n : Nxt F A H F1 A1 H1) : Got K W σ ρ F1 A1 H1 R2 r Q := by
  obtain ⟨o, m', e, h⟩ := h
  refine ⟨o, m', e, ?_⟩
  cases o with
  | ok a => exact fun F' A' b H' n' => h F' A' b H' (n.trans n')
  | ex C fs => exact fun F' A' d vs H' n' => h F' A' d vs H' (n.trans n')
theorem Got.bind (h : Got K W σ ρ F A H R2 (bM x f) Q) : Got K W σ ρ F A H R1 x fun b H1 => ∃ F1 A1 m1 a, Nxt F A H F1 A1 H1 ∧ Wd K F1 A1 ρ m1 σ H1 ∧ R1 F1 A1 H1 b a ∧ Got K W σ ρ F1 A1 H1 R2 (f a m1) Q := by
  match x, h with
  | none, h => obtain ⟨_, _, e, _⟩ := h; cases e
  | some (.ok a, m1), h => exact ⟨_, _, rfl, fun F1 A1 b H1 n w r => ⟨F1, A1, m1, a, n, w, r, Got.later h n⟩⟩
  | some (.ex C fs, m1), h =>
    obtain ⟨o, m', e, h⟩ := h
    cases e
    exact ⟨_, _, rfl, h⟩
theorem Got.mono {r : M γ} {Q' : δ → Hp → Prop} (h : Got K W σ ρ F A H R2 r Q) (k : ∀ b H', Q b H' → Q' b H') : Got K W σ ρ F A H R2 r Q' := by
  obtain ⟨o, m', e, h⟩ := h
  refine ⟨o, m', e, ?_⟩
  cases o with
  | ok a => exact fun F' A' b H' n w r => k _ _ (h F' A' b H' n w r)
  | ex C fs => exact h
/-- a value is there at once -/
theorem Got.now {c : γ} {m : List MO} {d : δ} (h : Got K W σ ρ F A H R2 (rM c m) Q) (w : Wd K F A ρ m σ H) (r : R2 F A H d c) : Q d H := by
  obtain ⟨o, m', e, h⟩ := h
  cases e
  exact h F A d H Nxt.refl w r
end
/-! ### the readings -/
abbrev VE := S → M Sl
abbrev VN := S → M (List T)
abbrev VT := S → M Bool
abbrev VA := S → M (List Sl)
/-- a value | a list that is nobody's yet | a test's answer | arguments -/
def rS (K : PySem.W.Frag) : Hp → List Addr → Hp → V → Sl → Prop := fun F A _ v s => RpS K F A v s
def rN (K : PySem.W.Frag) : Hp → List Addr → Hp → V → List T → Prop := fun F A H v ts => ∃ p xs, v = .ref p ∧ F p = none ∧ p ∉ A ∧ H p = some (.lst xs) ∧ RpL K F xs ts ∧ ts.length ≤ 1000000
def LE (K : PySem.W.Frag) (W : WX) (f : VE) : TE := fun σ H Q => ∃ F A ρ m, Wd K F A ρ m σ H ∧ Got K W σ ρ F A H (rS K) (f ⟨ρ, m⟩) Q
def LN (K : PySem.W.Frag) (W : WX) (f : VN) : TE := fun σ H Q => ∃ F A ρ m, Wd K F A ρ m σ H ∧ Got K W σ ρ F A H (fun F' A' H' v ts => rN K F' A' H' v ts ∧ ∀ p, v = .ref p → H p = none) (f ⟨ρ, m⟩) Q
def LT (K : PySem.W.Frag) (W : WX) (f : VT) : TT := fun σ H Q => ∃ F A ρ m, Wd K F A ρ m σ H ∧ Got K W σ ρ F A H (fun _ _ _ b c => b = c) (f ⟨ρ, m⟩) Q
def LA (K : PySem.W.Frag) (W : WX) (f : VA) : TA := fun σ H Q => ∃ F A ρ m, Wd K F A ρ m σ H ∧ Got K W σ ρ F A H (fun F' A' _ vs ss => RpSs K F' A' vs ss) (f ⟨ρ, m⟩) Q
end Vs
end
section
/-! Vs2: the rules by values: names, constants, operators, displays, tests. -/
namespace Vs
open PySem PySem.Spec PyProof.Rows L2
variable [WW]
theorem PE.imp {X : Cx} {e : Expr} {t t' : TE} (h : PE X e t) (k : ∀ σ H Q, t' σ H Q → t σ H Q) : PE X e t' := ⟨fun pins s σ H Q I z => h.run pins s σ H Q I (k _ _ _ z)⟩
theorem PT.imp {X : Cx} {e : Expr} {t t' : TT} (h : PT X e t) (k : ∀ σ H Q, t' σ H Q → t σ H Q) : PT X e t' := ⟨fun pins s σ H Q I z => h.run pins s σ H Q I (k _ _ _ z)⟩
theorem PW.imp {X : Cx} {e : Expr} {t t' : TT} (h : PW X e t) (k : ∀ σ H Q, t' σ H Q → t σ H Q) : PW X e t' := ⟨fun w pins s σ H Q I z => h.run w pins s σ H Q I (k _ _ _ z)⟩
theorem PA.imp {X : Cx} {es : List Expr} {t t' : TA} (h : PA X es t) (k : ∀ σ H Q, t' σ H Q → t σ H Q) : PA X es t' := ⟨fun pos pins s σ H Q I z => h.run pos pins s σ H Q I (k _ _ _ z)⟩
theorem PS.imp {X : Cx} {s : Stmt} {t t' : TS} (h : PS X s t) (k : ∀ D σ H, t' D σ H → t D σ H) : PS X s t' := ⟨fun pins s σ H D I z => h.run pins s σ H D I (k _ _ _ z)⟩
theorem PSs.imp {X : Cx} {s : List Stmt} {t t' : TS} (h : PSs X s t) (k : ∀ D σ H, t' D σ H → t D σ H) : PSs X s t' := ⟨fun pins s σ H D I z => h.run pins s σ H D I (k _ _ _ z)⟩
section
variable {K : PySem.W.Frag} {W : WX} {X : Cx}
/-! ### names, constants -/
def vVar (i : Nat) : VE := fun s => match s.ρ[i]? with
  | some (some r) => rM r s.m
  | _ => none
def vC (t : T) : VE := fun s => rM (.val t) s.m
theorem le_var {i : Nat} {σ : L2.St} {H : Hp} {Q : VK} (h : LE K W (vVar i) σ H Q) : tVar i σ H Q := by
  obtain ⟨F, A, ρ, m, w, g⟩ := h
  unfold vVar at g
  cases e : ρ[i]? with
  | none => simp only [e] at g; obtain ⟨_, _, z, _⟩ := g; cases z
  | some r =>
    cases r with
    | none => simp only [e] at g; obtain ⟨_, _, z, _⟩ := g; cases z
    | some r =>
      simp only [e] at g
      obtain ⟨v, h1, h2⟩ := w.slot i r e
      exact ⟨v, h1, g.now w h2⟩
theorem pe_vvar (i : Nat) {x : Str} {pos : Pos} (hN : X.N[i]? = some x := by rfl) (hv : Vis X.env.scope x := by first | exact Or.inl rfl | exact Or.inr (Or.inl rfl) | exact Or.inr (Or.inr rfl)) (hd : (x == ("__debug__" : Str)) = false := by decide) (hcd : (x == ("__classdict__" : Str)) = false := by decide) :
    PE X (.Name x pos) (LE X.K W (vVar i)) := PE.imp (pe_var hN hv hd hcd) fun _ _ _ => le_var
theorem le_c {v : V} {t : T} (r : ∀ F, Rp K F v t) {σ : L2.St} {H : Hp} {Q : VK} (h : LE K W (vC t) σ H Q) : tC v σ H Q := by
  obtain ⟨F, A, ρ, m, w, g⟩ := h
  exact g.now w (r F)
theorem pe_vint {i : Int} {j : Nat} {pos : Pos} : PE X (.Constant (.int i) j pos) (LE X.K W (vC (.int i))) := PE.imp pe_int fun _ _ _ => le_c fun _ => .int i
theorem pe_vstr {x : Str} {j : Nat} {pos : Pos} : PE X (.Constant (.str x) j pos) (LE X.K W (vC (.str x))) := PE.imp pe_str fun _ _ _ => le_c fun _ => .str x
theorem pe_vbl {b : Bool} {j : Nat} {pos : Pos} : PE X (.Constant (.bool b) j pos) (LE X.K W (vC (.bl b))) := PE.imp pe_bl fun _ _ _ => le_c fun _ => .bl b
theorem pe_vnon {j : Nat} {pos : Pos} : PE X (.Constant .none j pos) (LE X.K W (vC .non)) := PE.imp pe_non fun _ _ _ => le_c fun _ => .non
/-- a name of the module -/
theorem pe_vglob {x : Str} {v : V} {u : Value} {t : T} {pos : Pos} (hg : Gl X x) (hm : X.mg x = some u) (r : RelV v u) (rp : ∀ F, Rp X.K F v t) (hd : (x == ("__debug__" : Str)) = false := by decide) : PE X (.Name x pos) (LE X.K W (vC t)) := PE.imp (pe_glob hg hm r hd) fun _ _ _ => le_c rp
/-! ### lists that are nobody's -/
def vVal (f : VN) : VE := fun s => bM (f s) fun ts m => rM (.val (.lst ts)) m
def vOwn (f : VN) : VE := fun s => bM (f s) fun ts m => rM (.own m.length) (m ++ [.lst ts])
theorem le_val {f : VN} {σ : L2.St} {H : Hp} {Q : VK} (h : LE K W (vVal f) σ H Q) : LN K W f σ H Q := by
  obtain ⟨F, A, ρ, m, w, g⟩ := h
  refine ⟨F, A, ρ, m, w, ?_⟩
  unfold vVal at g
  match h : f ⟨ρ, m⟩, g with
  | none, g => obtain ⟨_, _, z, _⟩ := g; cases z
  | some (.ex C fs, m1), g =>
    obtain ⟨_, _, z, g⟩ := g
    cases z
    exact ⟨_, _, rfl, g⟩
  | some (.ok ts, m1), g =>
    obtain ⟨_, _, z, g⟩ := g
    cases z
    refine ⟨_, _, rfl, fun F1 A1 v H1 n w1 ⟨⟨p, xs, ev, fp, na, e, r, _⟩, np0⟩ => ?_⟩
    have np := np0 p ev
    subst ev
    have s1 : Same F1 (upd F1 p (.lst xs)) := same_new fp
    have s2 : Same (upd F1 p (.lst xs)) H1 := fun b u z => by
      by_cases q : b = p
      · subst q; rw [upd_same] at z; rw [e]; exact z
      · rw [upd_ne q] at z; exact w1.os.sub b u z
    refine g (upd F1 p (.lst xs)) A1 (.ref p) H1 ⟨n.sub.trans s1, n.pre, fun a u z => ?_, n.news, n.keepT⟩ (w1.of s1 (List.prefix_refl _) ⟨s2, w1.os.len, w1.os.nd, w1.os.there, fun i a o h1 h2 => ?_, w1.os.gho.trans s1, w1.os.tabFrz fp e⟩) (.lst upd_same (r.same s1))
    · by_cases q : a = p
      · subst q; exact .inr (.inl np)
      · rw [upd_ne q] at z; exact n.fresh a u z
    · have ne : a ≠ p := fun q => na (q ▸ List.mem_of_getElem? h1)
      exact (w1.os.obj i a o h1 h2).next s1 (List.prefix_refl _) (fun _ z => z) fun z => by rw [upd_ne ne]; exact z
theorem le_own {f : VN} {σ : L2.St} {H : Hp} {Q : VK} (h : LE K W (vOwn f) σ H Q) : LN K W f σ H Q := by
  obtain ⟨F, A, ρ, m, w, g⟩ := h
  refine ⟨F, A, ρ, m, w, ?_⟩
  unfold vOwn at g
  match h : f ⟨ρ, m⟩, g with
  | none, g => obtain ⟨_, _, z, _⟩ := g; cases z
  | some (.ex C fs, m1), g =>
    obtain ⟨_, _, z, g⟩ := g
    cases z
    exact ⟨_, _, rfl, g⟩
  | some (.ok ts, m1), g =>
    obtain ⟨_, _, z, g⟩ := g
    cases z
    refine ⟨_, _, rfl, fun F1 A1 v H1 n w1 ⟨⟨p, xs, ev, fp, na, e, r, _⟩, np0⟩ => ?_⟩
    have np := np0 p ev
    subst ev
    refine g F1 (A1 ++ [p]) (.ref p) H1 ⟨n.sub, List.IsPrefix.trans n.pre (List.prefix_append _ _), n.fresh, fun a ha => ?_, n.keepT⟩ (w1.of (Same.refl _) (List.prefix_append _ _) (w1.os.add fp na e r)) ⟨p, ?_, rfl⟩
    · rcases List.mem_append.mp ha with z | z
      · exact n.news a z
      · rw [List.mem_singleton.mp z]; exact .inr np
    · rw [← w1.os.len, List.getElem?_append_right (Nat.le_refl _), Nat.sub_self]
      rfl
theorem pe_vval {e : Expr} {f : VN} (h : PE X e (LN K W f)) : PE X e (LE K W (vVal f)) := PE.imp h fun _ _ _ => le_val
theorem pe_vown {e : Expr} {f : VN} (h : PE X e (LN K W f)) : PE X e (LE K W (vOwn f)) := PE.imp h fun _ _ _ => le_own
/-! ### operators -/
def OpV (K : PySem.W.Frag) (r : R2) (g : Sl → Sl → List MO → M Sl) : Prop :=
  ∀ (W : WX) (F : Hp) (A : List Addr) (ρ : List (Option Sl)) (m : List MO) (σ : L2.St) (H : Hp) (x y : V) (a b : Sl) (Q : VK), Wd K F A ρ m σ H → RpS K F A x a → RpS K F A y b → Got K W σ ρ F A H (rS K) (g a b m) Q → r x y H Q
def vBin (g : Sl → Sl → List MO → M Sl) (fa fb : VE) : VE := fun s => bM (fa s) fun a m1 => bM (fb ⟨s.ρ, m1⟩) fun b m2 => g a b m2
theorem le_bin {r : R2} {g : Sl → Sl → List MO → M Sl} {fa fb : VE} (hv : OpV K r g) {σ : L2.St} {H : Hp} {Q : VK} (h : LE K W (vBin g fa fb) σ H Q) : tOp r (LE K W fa) (LE K W fb) σ H Q := by
  obtain ⟨F, A, ρ, m, w, got⟩ := h
  refine ⟨F, A, ρ, m, w, (Got.bind (R1 := rS K) got).mono fun x H1 z => ?_⟩
  obtain ⟨F1, A1, m1, a, n1, w1, ra, g1⟩ := z
  refine ⟨F1, A1, ρ, m1, w1, (Got.bind (R1 := rS K) g1).mono fun y H2 z => ?_⟩
  obtain ⟨F2, A2, m2, b, n2, w2, rb, g2⟩ := z
  exact hv W F2 A2 ρ m2 σ H2 x y a b Q w2 (ra.next n2.sub n2.pre) rb g2
theorem pe_vop {op : Operator} {r : R2} {g : Sl → Sl → List MO → M Sl} {a b : Expr} {fa fb : VE} {pos : Pos} (ho : OpR X (binaryOp op) r) (hv : OpV X.K r g) (ha : PE X a (LE X.K W fa)) (hb : PE X b (LE X.K W fb)) : PE X (.BinOp a op b pos) (LE X.K W (vBin g fa fb)) := PE.imp (pe_op ho ha hb) fun _ _ _ => le_bin hv
theorem pe_vcmp {op : CmpOp} {r : R2} {g : Sl → Sl → List MO → M Sl} {a b : Expr} {fa fb : VE} {pos : Pos} (ho : OpR X (compareOp op) r) (hv : OpV X.K r g) (ha : PE X a (LE X.K W fa)) (hb : PE X b (LE X.K W fb)) (hm : behindInMarks op b = false) : PE X (.Compare a [op] [b] pos) (LE X.K W (vBin g fa fb)) := PE.imp (pe_cmpR ho ha hb hm) fun _ _ _ => le_bin hv
/-- ints -/
def gInt (f : Int → Int → T) : Sl → Sl → List MO → M Sl
  | .val (.int i), .val (.int j), m => rM (.val (f i j)) m
  | _, _, _ => none
theorem ov_int {f : Int → Int → V} {f' : Int → Int → T} (hf : ∀ F i j, Rp K F (f i j) (f' i j)) : OpV K (rI0 f) (gInt f') := by
  intro W F A ρ m σ H x y a b Q w ra rb g
  unfold gInt at g
  split at g
  · rename_i m' i j
    cases ra
    cases rb
    exact ⟨i, j, rfl, rfl, g.now w (hf F i j)⟩
  · obtain ⟨_, _, z, _⟩ := g; cases z
end
end Vs
end
section
/-! Vs3: tests, statements, loops. -/
namespace Vs
open PySem PySem.Spec PyProof.Rows L2
variable [WW]
inductive Fl where
  | nx | bk | ct
  | rt (r : Sl)
  | ex (C : Addr) (fs : List (Str × T))
abbrev R := Option (Fl × S)
abbrev VS := S → R
section
variable {K : PySem.W.Frag} {W : WX} {X : Cx}
/-- a run is as the function says -/
def Ran (K : PySem.W.Frag) (W : WX) (F : Hp) (A : List Addr) (H : Hp) (D : Ends) (r : R) : Prop := ∃ fl s', r = some (fl, s') ∧ match fl with
  | .nx => ∀ F' A' σ' H', Nxt F A H F' A' H' → Wd K F' A' s'.ρ s'.m σ' H' → D.nx σ' H'
  | .bk => ∀ F' A' σ' H', Nxt F A H F' A' H' → Wd K F' A' s'.ρ s'.m σ' H' → D.bk σ' H'
  | .ct => ∀ F' A' σ' H', Nxt F A H F' A' H' → Wd K F' A' s'.ρ s'.m σ' H' → D.ct σ' H'
  | .rt r => ∀ F' A' σ' v H', Nxt F A H F' A' H' → Wd K F' A' s'.ρ s'.m σ' H' → RpS K F' A' v r → D.rt v H'
  | .ex C fs => ∀ F' A' σ' d vs H', Nxt F A H F' A' H' → Wd K F' A' s'.ρ s'.m σ' H' → RpF K F' vs fs → H' d = some (.xd vs) → W (.ref C) (some d) σ' H'
def LS (K : PySem.W.Frag) (W : WX) (g : VS) : TS := fun D σ H => ∃ F A ρ m, Wd K F A ρ m σ H ∧ Ran K W F A H D (g ⟨ρ, m⟩)
theorem Ran.later {F F1 : Hp} {A A1 : List Addr} {H H1 : Hp} {D : Ends} {r : R} (h : Ran K W F A H D r) (n : Nxt F A H F1 A1 H1) : Ran K W F1 A1 H1 D r := by
  obtain ⟨fl, s', e, h⟩ := h
  refine ⟨fl, s', e, ?_⟩
  cases fl with
  | nx => exact fun F' A' σ' H' n' => h F' A' σ' H' (n.trans n')
  | bk => exact fun F' A' σ' H' n' => h F' A' σ' H' (n.trans n')
  | ct => exact fun F' A' σ' H' n' => h F' A' σ' H' (n.trans n')
  | rt r => exact fun F' A' σ' v H' n' => h F' A' σ' v H' (n.trans n')
  | ex C fs => exact fun F' A' σ' d vs H' n' => h F' A' σ' d vs H' (n.trans n')
/-- what an expression brings, and what is done with it -/
def bS {α : Type} (ρ : List (Option Sl)) (x : M α) (f : α → List MO → R) : R := match x with
  | none => none
  | some (.ok a, m) => f a m
  | some (.ex C fs, m) => some (.ex C fs, ⟨ρ, m⟩)
theorem Ran.bS {α β : Type} {σ : L2.St} {ρ : List (Option Sl)} {F : Hp} {A : List Addr} {H : Hp} {D : Ends} {x : M α} {f : α → List MO → R} (R1 : Hp → List Addr → Hp → β → α → Prop) (h : Ran K W F A H D (bS ρ x f)) :
    Got K W σ ρ F A H R1 x fun b H1 => ∃ F1 A1 m1 a, Nxt F A H F1 A1 H1 ∧ Wd K F1 A1 ρ m1 σ H1 ∧ R1 F1 A1 H1 b a ∧ Ran K W F1 A1 H1 D (f a m1) := by
  match x, h with
  | none, h => obtain ⟨_, _, e, _⟩ := h; cases e
  | some (.ok a, m1), h => exact ⟨_, _, rfl, fun F1 A1 b H1 n w r => ⟨F1, A1, m1, a, n, w, r, Ran.later h n⟩⟩
  | some (.ex C fs, m1), h =>
    obtain ⟨fl, s', e, h⟩ := h
    cases e
    exact ⟨_, _, rfl, fun F' A' d vs H' n w => h F' A' σ d vs H' n w⟩
theorem Ran.nx {ρ : List (Option Sl)} {m : List MO} {F : Hp} {A : List Addr} {σ : L2.St} {H : Hp} {D : Ends} (h : Ran K W F A H D (some (.nx, ⟨ρ, m⟩))) (w : Wd K F A ρ m σ H) : D.nx σ H := by
  obtain ⟨fl, s', e, h⟩ := h
  cases e
  exact h F A σ H Nxt.refl w
theorem Ran.rt {ρ : List (Option Sl)} {m : List MO} {F : Hp} {A : List Addr} {σ : L2.St} {H : Hp} {D : Ends} {r : Sl} {v : V} (h : Ran K W F A H D (some (.rt r, ⟨ρ, m⟩))) (w : Wd K F A ρ m σ H) (rv : RpS K F A v r) : D.rt v H := by
  obtain ⟨fl, s', e, h⟩ := h
  cases e
  exact h F A σ v H Nxt.refl w rv
theorem Wd.set {F : Hp} {A : List Addr} {ρ : List (Option Sl)} {m : List MO} {σ : L2.St} {H : Hp} {i : Nat} {r : Sl} {v : V} (w : Wd K F A ρ m σ H) (rv : RpS K F A v r) : Wd K F A (ρ.set i (some r)) m (σ.set i (some v)) H := by
  refine ⟨w.os, fun j s z => ?_, by rw [List.length_set, List.length_set]; exact w.slen⟩
  by_cases e : i = j
  · subst e
    have hl : i < ρ.length := by
      have := (List.getElem?_eq_some_iff.mp z).1
      rw [List.length_set] at this
      exact this
    rw [List.getElem?_set_self hl] at z
    cases z
    exact ⟨v, by rw [List.getElem?_set_self (w.slen ▸ hl)], rv⟩
  · rw [List.getElem?_set_ne e] at z
    obtain ⟨u, h1, h2⟩ := w.slot j s z
    exact ⟨u, by rw [List.getElem?_set_ne e]; exact h1, h2⟩
/-! ### statements -/
def vSeq (f g : VS) : VS := fun s => match f s with
  | none => none
  | some (.nx, s') => g s'
  | some (fl, s') => some (fl, s')
theorem ls_seq {f g : VS} {D : Ends} {σ : L2.St} {H : Hp} (h : LS K W (vSeq f g) D σ H) : tSeq (LS K W f) (LS K W g) D σ H := by
  obtain ⟨F, A, ρ, m, w, r⟩ := h
  refine ⟨F, A, ρ, m, w, ?_⟩
  unfold vSeq at r
  match e : f ⟨ρ, m⟩, r with
  | none, r => obtain ⟨_, _, z, _⟩ := r; cases z
  | some (.nx, s'), r => exact ⟨_, _, rfl, fun F' A' σ' H' n w' => ⟨F', A', s'.ρ, s'.m, w', r.later n⟩⟩
  | some (.bk, s'), r => obtain ⟨_, _, z, r⟩ := r; cases z; exact ⟨_, _, rfl, r⟩
  | some (.ct, s'), r => obtain ⟨_, _, z, r⟩ := r; cases z; exact ⟨_, _, rfl, r⟩
  | some (.rt v, s'), r => obtain ⟨_, _, z, r⟩ := r; cases z; exact ⟨_, _, rfl, r⟩
  | some (.ex C fs, s'), r => obtain ⟨_, _, z, r⟩ := r; cases z; exact ⟨_, _, rfl, r⟩
theorem pss_vcons {st : Stmt} {rest : List Stmt} {f g : VS} (h1 : PS X st (LS K W f)) (h2 : PSs X rest (LS K W g)) : PSs X (st :: rest) (LS K W (vSeq f g)) := PSs.imp (pss_cons h1 h2) fun _ _ _ => ls_seq
theorem pss_vone {st : Stmt} {f : VS} (h : PS X st (LS K W f)) : PSs X [st] (LS K W f) := pss_one h
def vNext : VS := fun s => some (.nx, s)
theorem pss_vnil : PSs X [] (LS K W vNext) := PSs.imp pss_nil fun D σ H ⟨F, A, ρ, m, w, r⟩ => r.nx w
def vRet (f : VE) : VS := fun s => bS s.ρ (f s) fun r m => some (.rt r, ⟨s.ρ, m⟩)
theorem ps_vret {e : Expr} {f : VE} {pos : Pos} (he : PE X e (LE K W f)) : PS X (.Return (some e) pos) (LS K W (vRet f)) := PS.imp (ps_ret he) fun D σ H ⟨F, A, ρ, m, w, r⟩ =>
  ⟨F, A, ρ, m, w, (Ran.bS (rS K) r).mono fun b H1 ⟨F1, A1, m1, a, n, w1, ra, q⟩ => q.rt w1 ra⟩
def vSet (i : Nat) (f : VE) : VS := fun s => bS s.ρ (f s) fun r m => some (.nx, ⟨s.ρ.set i (some r), m⟩)
theorem ps_vset {i : Nat} {x : Str} {e : Expr} {f : VE} {pos pos' : Pos} (hN : X.N.Nodup) (hi : X.N[i]? = some x) (hx : Loc X.env.scope x) (he : PE X e (LE K W f)) (hs : swapsWith e (some (.Name x pos')) pos.line X.env = pure false := by rfl)
    (hf : X.fn x = true ∨ X.env.scope.names.lookup x = some .local := by first | exact .inl rfl | exact .inr rfl) : PS X (.Assign [.Name x pos'] e pos) (LS K W (vSet i f)) := PS.imp (ps_asg he (pg_name hN hi hx hf) (by exact hs) (by rfl)) fun D σ H ⟨F, A, ρ, m, w, r⟩ =>
  ⟨F, A, ρ, m, w, (Ran.bS (rS K) r).mono fun b H1 ⟨F1, A1, m1, a, n, w1, ra, q⟩ => q.nx (w1.set ra)⟩
def vDrop (f : VE) : VS := fun s => bS s.ρ (f s) fun _ m => some (.nx, ⟨s.ρ, m⟩)
theorem ps_vexpr {e : Expr} {f : VE} {pos : Pos} (he : PE X e (LE K W f)) (hs : swapsWith e none pos.line X.env = pure false := by rfl) : PS X (.Expr e pos) (LS K W (vDrop f)) := PS.imp (ps_expr he hs) fun D σ H ⟨F, A, ρ, m, w, r⟩ =>
  ⟨F, A, ρ, m, w, (Ran.bS (rS K) r).mono fun b H1 ⟨F1, A1, m1, a, n, w1, ra, q⟩ => q.nx w1⟩
def vIf (c : VT) (f g : VS) : VS := fun s => bS s.ρ (c s) fun b m => if b = true then f ⟨s.ρ, m⟩ else g ⟨s.ρ, m⟩
theorem ps_vif {c : Expr} {a b : List Stmt} {fc : VT} {f g : VS} {pos : Pos} (hc : PT X c (LT K W fc)) (ha : PSs X a (LS K W f)) (hb : PSs X b (LS K W g)) : PS X (.If c a b pos) (LS K W (vIf fc f g)) := PS.imp (ps_if hc ha hb) fun D σ H ⟨F, A, ρ, m, w, r⟩ =>
  ⟨F, A, ρ, m, w, (Ran.bS (fun _ _ _ b c => b = c) r).mono fun b H1 ⟨F1, A1, m1, a, n, w1, ra, q⟩ => by
    cases ra
    by_cases e : b = true
    · rw [if_pos e] at q ⊢; exact ⟨F1, A1, ρ, m1, w1, q⟩
    · rw [if_neg e] at q ⊢; exact ⟨F1, A1, ρ, m1, w1, q⟩⟩
/-! ### tests -/
def vTest (f : VE) : VT := fun s => bM (f s) fun r m => match r with
  | .val (.bl b) => rM b m
  | _ => none
theorem lt_test {f : VE} {σ : L2.St} {H : Hp} {Q : Bool → Hp → Prop} (h : LT K W (vTest f) σ H Q) : tB (LE K W f) σ H Q := by
  obtain ⟨F, A, ρ, m, w, g⟩ := h
  refine ⟨F, A, ρ, m, w, (Got.bind (R1 := rS K) g).mono fun x H1 ⟨F1, A1, m1, a, n, w1, ra, q⟩ => ?_⟩
  split at q
  · rename_i b
    cases ra
    exact ⟨b, rfl, q.now w1 rfl⟩
  · obtain ⟨_, _, z, _⟩ := q; cases z
theorem pt_vval {e : Expr} {f : VE} (h : PE X e (LE K W f)) (he : ∀ whole, isTrue e X.env whole = (do let v ← whole; standAt e.pos; holding [v] (truthy v)) := by intro _; rfl) : PT X e (LT K W (vTest f)) := PT.imp (pt_val h he) fun _ _ _ => lt_test
theorem pt_vcmp {op : CmpOp} {r : R2} {g : Sl → Sl → List MO → M Sl} {a b : Expr} {fa fb : VE} {pos : Pos} (ho : OpR X (compareOp op) r) (hv : OpV X.K r g) (ha : PE X a (LE X.K W fa)) (hb : PE X b (LE X.K W fb)) (hm : behindInMarks op b = false) : PT X (.Compare a [op] [b] pos) (LT X.K W (vTest (vBin g fa fb))) := by
  refine PT.imp (pt_cmpR ho ha hb hm) fun σ H Q h => ?_
  obtain ⟨F, A, ρ, m, w, g⟩ := lt_test h
  obtain ⟨F', A', ρ', m', w', g'⟩ := (show LE X.K W (vBin _ fa fb) σ H _ from ⟨F, A, ρ, m, w, g⟩)
  exact le_bin hv ⟨F', A', ρ', m', w', g'⟩
def vNot (f : VT) : VT := fun s => bM (f s) fun b m => rM (!b) m
theorem pt_vnot {a : Expr} {f : VT} {pos : Pos} (h : PT X a (LT K W f)) : PT X (.UnaryOp .Not a pos) (LT K W (vNot f)) := PT.imp (pt_not h) fun σ H Q ⟨F, A, ρ, m, w, g⟩ =>
  ⟨F, A, ρ, m, w, (Got.bind (R1 := fun _ _ _ b c => b = c) g).mono fun x H1 ⟨F1, A1, m1, a, n, w1, ra, q⟩ => by cases ra; exact q.now w1 rfl⟩
def vAnd (f g : VT) : VT := fun s => bM (f s) fun b m => if b = true then g ⟨s.ρ, m⟩ else rM false m
def vOr (f g : VT) : VT := fun s => bM (f s) fun b m => if b = true then rM true m else g ⟨s.ρ, m⟩
theorem pw_vand {a b : Expr} {rest : List Expr} {f g : VT} {pos : Pos} (ha : PT X a (LT K W f)) (hb : PW X (.BoolOp .And (b :: rest) pos) (LT K W g)) : PW X (.BoolOp .And (a :: b :: rest) pos) (LT K W (vAnd f g)) := PW.imp (pw_and ha hb) fun σ H Q ⟨F, A, ρ, m, w, g⟩ =>
  ⟨F, A, ρ, m, w, (Got.bind (R1 := fun _ _ _ b c => b = c) g).mono fun x H1 ⟨F1, A1, m1, a, n, w1, ra, q⟩ => by
    cases ra
    by_cases e : x = true
    · rw [if_pos e] at q ⊢; exact ⟨F1, A1, ρ, m1, w1, q⟩
    · rw [if_neg e] at q ⊢; exact q.now w1 rfl⟩
theorem pw_vor {a b : Expr} {rest : List Expr} {f g : VT} {pos : Pos} (ha : PT X a (LT K W f)) (hb : PW X (.BoolOp .Or (b :: rest) pos) (LT K W g)) : PW X (.BoolOp .Or (a :: b :: rest) pos) (LT K W (vOr f g)) := PW.imp (pw_or ha hb) fun σ H Q ⟨F, A, ρ, m, w, g⟩ =>
  ⟨F, A, ρ, m, w, (Got.bind (R1 := fun _ _ _ b c => b = c) g).mono fun x H1 ⟨F1, A1, m1, a, n, w1, ra, q⟩ => by
    cases ra
    by_cases e : x = true
    · rw [if_pos e] at q ⊢; exact q.now w1 rfl
    · rw [if_neg e] at q ⊢; exact ⟨F1, A1, ρ, m1, w1, q⟩⟩
theorem pw_vand1 {a : Expr} {f : VT} {pos : Pos} (ha : PT X a (LT K W f)) : PW X (.BoolOp .And [a] pos) (LT K W f) := pw_and1 ha
theorem pw_vor1 {a : Expr} {f : VT} {pos : Pos} (ha : PT X a (LT K W f)) : PW X (.BoolOp .Or [a] pos) (LT K W f) := pw_or1 ha
def vIfE (c : VT) (f g : VE) : VE := fun s => bM (c s) fun b m => if b = true then f ⟨s.ρ, m⟩ else g ⟨s.ρ, m⟩
theorem pe_vifE {c a b : Expr} {fc : VT} {f g : VE} {pos : Pos} (hc : PT X c (LT K W fc)) (ha : PE X a (LE K W f)) (hb : PE X b (LE K W g)) : PE X (.IfExp c a b pos) (LE K W (vIfE fc f g)) := PE.imp (pe_ifExp hc ha hb) fun σ H Q ⟨F, A, ρ, m, w, g⟩ =>
  ⟨F, A, ρ, m, w, (Got.bind (R1 := fun _ _ _ b c => b = c) g).mono fun x H1 ⟨F1, A1, m1, a, n, w1, ra, q⟩ => by
    cases ra
    by_cases e : x = true
    · rw [if_pos e] at q ⊢; exact ⟨F1, A1, ρ, m1, w1, q⟩
    · rw [if_neg e] at q ⊢; exact ⟨F1, A1, ρ, m1, w1, q⟩⟩
end
end Vs
end
section
/-! Vs4: what is walked, for, while, comprehensions. -/
namespace Vs
open PySem PySem.Spec PyProof.Rows L2
variable [WW]
/-! ### a list or a tuple, walked -/
def iSeq (K : PySem.W.Frag) (tl : TE) : TI := fun σ H R => tl σ H fun x H1 => ∃ a, x = .ref a ∧ (((∃ xs, SqL K H1 a xs) ∧ R (Itl K a) H1) ∨ ((∃ xs, SqT K H1 a xs) ∧ R (Itt K a) H1))
theorem pi_seq {X : Cx} {tg l : Expr} {tl : TE} (hl : PE X l tl) : PI X tg l (iSeq X.K tl) := by
  constructor
  intro pins s σ H R I h
  refine thn (hl.run pins s σ H _ I h) fun v s1 z => ?_
  rcases z with ⟨x, G, J, rx, a, rfl, z⟩
  cases rx
  have up : ∀ {o : Obj} (b : Addr) (u : Obj), s1.heap.get? b = some u → (s1.heap.push o).get? b = some u := fun b u e => Heap.get?_push_of_some _ e
  have fp : ∀ b ∈ [s1.heap.objs.size], FpOk X pins G b := fun b hb => by
    have e : b = s1.heap.objs.size := by simpa using hb
    rw [e]
    exact J.fpOk (Nat.le_refl _) (J.hok.fresh (Nat.le_refl _))
  rcases z with ⟨⟨xs, hq⟩, q⟩ | ⟨⟨xs, hq⟩, q⟩
  · rcases J.list hq with ⟨its, rv, p, _⟩
    exact wpAny_pyIter_list p.isList ⟨_, [s1.heap.objs.size], _, _, G, rfl, J.kept (t' := s1.toks) up, turn_list a _, ⟨_, Heap.get?_push_size _ rfl, rfl, rfl⟩, fp, q⟩
  · rcases J.tuple hq with ⟨its, rv, p, _⟩
    exact wpAny_pyIter_tuple (show s1.heap.IsTuple a its.toArray from p) ⟨_, [s1.heap.objs.size], _, _, G, rfl, J.kept (t' := s1.toks) up, turn_tuple a _, ⟨_, Heap.get?_push_size _ rfl, rfl, rfl⟩, fp, q⟩
section
variable {K : PySem.W.Frag} {W : WX} {X : Cx}
theorem PI.imp {tg e : Expr} {t t' : TI} (h : PI X tg e t) (k : ∀ σ H R, t' σ H R → t σ H R) : PI X tg e t' := ⟨fun pins s σ H R I z => h.run pins s σ H R I (k _ _ _ z)⟩
theorem PG.imp {tg : Expr} {t t' : TG} (h : PG X tg t) (k : ∀ v σ H Q, t' v σ H Q → t v σ H Q) : PG X tg t' := ⟨fun v u pins s σ H Q I r z => h.run v u pins s σ H Q I r (k _ _ _ _ z)⟩
/-- J walks the items, from any later state -/
def Walks (K : PySem.W.Frag) (F : Hp) (A : List Addr) (H : Hp) (J : It) (items : List T) : Prop :=
  ∀ F' A' H' m, Same F F' → Objs K F' A' m H' → ∀ i,
    (∀ t, items[i]? = some t → J.go i H' ∧ ∀ x H'', J.yld i H' x H'' → ∃ F'', Nxt F' A' H' F'' A' H'' ∧ Objs K F'' A' m H'' ∧ Rp K F'' x t) ∧ (items.length ≤ i → J.stop i H')
abbrev VI := S → M (List T)
def LI (K : PySem.W.Frag) (W : WX) (it : VI) : TI := fun σ H R => ∃ F A ρ m, Wd K F A ρ m σ H ∧ Got K W σ ρ F A H (fun F' A' H' (J : It) ts => Walks K F' A' H' J ts) (it ⟨ρ, m⟩) R
theorem walk_list {F : Hp} {A : List Addr} {H : Hp} {a : Addr} {xs : List V} {ts : List T} (s : Same F H) (h : SqL K F a xs) (r : RpL K F xs ts) : Walks K F A H (Itl K a) ts := fun F' A' H' m n o i => by
  have h' : SqL K H' a xs := o.sub.seq (n.seq h)
  refine ⟨fun t e => ?_, fun hi => ⟨xs, h', by rw [r.length]; exact hi⟩⟩
  obtain ⟨v, ev, rv⟩ := r.get e
  refine ⟨⟨xs, v, h', ev⟩, fun x H'' ⟨eH, y⟩ => ?_⟩
  subst eH
  have := y xs h'
  rw [ev] at this
  cases this
  exact ⟨F', Nxt.refl, o, rv.same n⟩
theorem walk_tup {F : Hp} {A : List Addr} {H : Hp} {a : Addr} {xs : List V} {ts : List T} (s : Same F H) (h : SqT K F a xs) (r : RpL K F xs ts) : Walks K F A H (Itt K a) ts := fun F' A' H' m n o i => by
  have h' : SqT K H' a xs := sqT_same o.sub (sqT_same n h)
  refine ⟨fun t e => ?_, fun hi => ⟨xs, h', by rw [r.length]; exact hi⟩⟩
  obtain ⟨v, ev, rv⟩ := r.get e
  refine ⟨⟨xs, v, h', ev⟩, fun x H'' ⟨eH, y⟩ => ?_⟩
  subst eH
  have := y xs h'
  rw [ev] at this
  cases this
  exact ⟨F', Nxt.refl, o, rv.same n⟩
def gSeq : Sl → List MO → M (List T)
  | .val (.lst ts), m => rM ts m
  | .val (.tup ts), m => rM ts m
  | .val (.seq ts), m => rM ts m
  | _, _ => none
/-- a list or a tuple that is never changed -/
def vItems (f : VE) : VI := fun s => bM (f s) gSeq
theorem pi_vseq {tg e : Expr} {f : VE} (he : PE X e (LE X.K W f)) : PI X tg e (LI X.K W (vItems f)) := PI.imp (pi_seq he) fun σ H R ⟨F, A, ρ, m, w, g⟩ =>
  ⟨F, A, ρ, m, w, (Got.bind (R1 := rS X.K) g).mono fun x H1 ⟨F1, A1, m1, a, n, w1, ra, q⟩ => by
    unfold gSeq at q
    split at q
    · cases ra with
      | lst h r => exact ⟨_, rfl, .inl ⟨⟨_, SqL.of (w1.os.sub _ _ h)⟩, q.now w1 (walk_list w1.os.sub (SqL.of h) r)⟩⟩
    · cases ra with
      | tup h r => exact ⟨_, rfl, .inr ⟨⟨_, sqT_same w1.os.sub h⟩, q.now w1 (walk_tup w1.os.sub h r)⟩⟩
    · cases ra with
      | seq h r => exact ⟨_, rfl, .inl ⟨⟨_, w1.os.sub.seq h⟩, q.now w1 (walk_list w1.os.sub h r)⟩⟩
    · obtain ⟨_, _, z, _⟩ := q; cases z⟩
/-- range(n) -/
def intsT (lo : Int) : Nat → List T
  | 0 => []
  | n + 1 => .int lo :: intsT (lo + 1) n
theorem intsT_len (lo : Int) : ∀ n, (intsT lo n).length = n
  | 0 => rfl
  | n + 1 => by show (intsT (lo + 1) n).length + 1 = _; rw [intsT_len (lo + 1) n]
theorem intsT_get (lo : Int) : ∀ n i, i < n → (intsT lo n)[i]? = some (.int (lo + (i : Nat)))
  | 0, i, h => absurd h (Nat.not_lt_zero i)
  | n + 1, 0, _ => by show some (T.int lo) = _; rw [Int.natCast_zero, Int.add_zero]
  | n + 1, i + 1, h => by
    show (intsT (lo + 1) n)[i]? = _
    rw [intsT_get (lo + 1) n i (Nat.lt_of_succ_lt_succ h), Int.natCast_succ, Int.add_assoc, Int.add_comm 1]
theorem walk_range {F : Hp} {A : List Addr} {H : Hp} {lo : Int} {n : Nat} : Walks K F A H (Itr lo n) (intsT lo n) := fun F' A' H' m nx o i => by
  refine ⟨fun t e => ?_, fun hi => by rw [intsT_len] at hi; exact hi⟩
  have hi : i < n := by
    have := (List.getElem?_eq_some_iff.mp e).1
    rw [intsT_len] at this
    exact this
  rw [intsT_get lo n i hi] at e
  cases e
  refine ⟨hi, fun x H'' ⟨eH, y⟩ => ?_⟩
  subst eH y
  exact ⟨F', Nxt.refl, o, .int _⟩
def gRange : Sl → List MO → M (List T)
  | .val (.int i), m => if -1000000 ≤ i ∧ i ≤ 1000000 then rM (intsT 0 i.toNat) m else none
  | _, _ => none
def vRange (f : VE) : VI := fun s => bM (f s) gRange
theorem pi_vrange {tg e : Expr} {f : VE} {p pos : Pos} (hg : Gl X "range") (hm : X.mg "range" = none) (he : PE X e (LE X.K W f)) (hs : starEach [e] X.env = [(false, eval e X.env)] := by rfl) : PI X tg (.Call (.Name "range" p) [e] [] pos) (LI X.K W (vRange f)) := PI.imp (pi_range1 hg hm (pa_cons he pa_nil (by rw [hs]; rfl)) hs) fun σ H R ⟨F, A, ρ, m, w, g⟩ =>
  ⟨F, A, ρ, m, w, (Got.bind (R1 := rS X.K) g).mono fun x H1 ⟨F1, A1, m1, a, n, w1, ra, q⟩ => by
    unfold gRange at q
    split at q
    · rename_i m' i
      split at q
      · rename_i h
        cases ra
        exact ⟨i, rfl, by omega, by omega, q.now w1 walk_range⟩
      · obtain ⟨_, _, z, _⟩ := q; cases z
    · obtain ⟨_, _, z, _⟩ := q; cases z⟩
/-! ### targets -/
abbrev VG := T → List (Option Sl) → Option (List (Option Sl))
/-- slots but those in L are as they were -/
def Sam (L : List Nat) (σ σ' : L2.St) : Prop := σ'.length = σ.length ∧ ∀ j, j ∉ L → σ'[j]? = σ[j]?
theorem Sam.refl {L : List Nat} {σ : L2.St} : Sam L σ σ := ⟨rfl, fun _ _ => rfl⟩
def LG (K : PySem.W.Frag) (L : List Nat) (g : VG) : TG := fun v σ H Q => ∃ F A ρ m t ρ', Wd K F A ρ m σ H ∧ Rp K F v t ∧ g t ρ = some ρ' ∧ ∀ σ', Wd K F A ρ' m σ' H → Sam L σ σ' → Q σ' H
def vgName (i : Nat) : VG := fun t ρ => some (ρ.set i (some (.val t)))
theorem pg_vname {i : Nat} {x : Str} {pos : Pos} (hN : X.N.Nodup) (hi : X.N[i]? = some x) (hx : Loc X.env.scope x) (hf : X.fn x = true ∨ X.env.scope.names.lookup x = some .local := by first | exact .inl rfl | exact .inr rfl) : PG X (.Name x pos) (LG X.K [i] (vgName i)) :=
  PG.imp (pg_name hN hi hx hf) fun v σ H Q ⟨F, A, ρ, m, t, ρ', w, r, e, k⟩ => by
    cases e
    refine k _ (w.set (r := .val t) r) ⟨List.length_set, fun j hj => ?_⟩
    rw [List.getElem?_set_ne fun z => hj (by rw [z]; simp)]
/-! ### for -/
def vLoop (g : VG) (b : VS) : List T → S → R
  | [], s => some (.nx, s)
  | t :: r, s => match g t s.ρ with
    | none => none
    | some ρ1 => match b ⟨ρ1, s.m⟩ with
      | some (.nx, s2) => vLoop g b r s2
      | some (.ct, s2) => vLoop g b r s2
      | some (.bk, s2) => some (.nx, s2)
      | x => x
def vFor (it : VI) (g : VG) (b : VS) : VS := fun s => bS s.ρ (it s) fun ts m => vLoop g b ts ⟨s.ρ, m⟩
theorem ps_vfor {tg iter : Expr} {body : List Stmt} {it : VI} {g : VG} {b : VS} {pos : Pos} (hp : PassesOwn (model X.prog X.w) X.A X.env X.xe) (hc : X.calm = true) (hi : PI X tg iter (LI X.K W it)) {L : List Nat} (hg : PG X tg (LG X.K L g)) (hb : PSs X body (LS X.K W b)) (hs : ∀ x, foldedSetIterable iter X.env x = pure x := by intro _; rfl) :
    PS X (.For tg iter body [] pos) (LS X.K W (vFor it g b)) := PS.imp (ps_for hp hc hi hg hb hs) fun D σ H ⟨F, A, ρ, m, w, r⟩ =>
  ⟨F, A, ρ, m, w, (Ran.bS (fun F' A' H' (J : It) ts => Walks X.K F' A' H' J ts) r).mono fun J H1 ⟨F1, A1, m1, ts, n1, w1, wk, q⟩ => by
    refine ⟨fun i k τ G => ∃ F' A' ρ' m', Nxt F1 A1 H1 F' A' G ∧ Wd X.K F' A' ρ' m' τ G ∧ i ≤ ts.length ∧ k = ts.length - i ∧ Ran X.K W F' A' G D (vLoop g b (ts.drop i) ⟨ρ', m'⟩), ⟨ts.length, F1, A1, ρ, m1, Nxt.refl, w1, Nat.zero_le _, rfl, q⟩, ?_⟩
    rintro i k τ G ⟨F', A', ρ', m', n', w', hi, rfl, q'⟩
    by_cases e : i < ts.length
    · have et : ts[i]? = some ts[i] := List.getElem?_eq_getElem e
      have ed : ts.drop i = ts[i] :: ts.drop (i + 1) := List.drop_eq_getElem_cons e
      obtain ⟨go, yl⟩ := (wk F' A' G m' n'.sub w'.os i).1 _ et
      refine .inr ⟨go, fun τ2 G2 => ∃ F2 A2 ρ2 m2, Nxt F1 A1 H1 F2 A2 G2 ∧ Wd X.K F2 A2 ρ2 m2 τ2 G2 ∧ Ran X.K W F2 A2 G2 D (vLoop g b (ts.drop (i + 1)) ⟨ρ2, m2⟩), fun τ2 G2 ⟨F2, A2, ρ2, m2, n2, w2, q2⟩ => ⟨ts.length - (i + 1), by omega, F2, A2, ρ2, m2, n2, w2, e, rfl, q2⟩, fun x G3 y => ?_⟩
      obtain ⟨F3, n3, o3, rx⟩ := yl x G3 y
      rw [ed] at q'
      unfold vLoop at q'
      have w3 : Wd X.K F3 A' ρ' m' τ G3 := w'.of n3.sub (List.prefix_refl _) o3
      match eg : g ts[i] ρ', q' with
      | none, q' => obtain ⟨_, _, z, _⟩ := q'; cases z
      | some ρ1, q' =>
        refine ⟨F3, A', ρ', m', _, ρ1, w3, rx, eg, fun σ' w4 _ => ?_⟩
        refine ⟨F3, A', ρ1, m', w4, ?_⟩
        have q3 := q'.later n3
        match eb : b ⟨ρ1, m'⟩, q3 with
        | none, q3 => obtain ⟨_, _, z, _⟩ := q3; simp only [eb] at z; cases z
        | some (.nx, s2), q3 => exact ⟨_, _, rfl, fun F5 A5 σ5 H5 n5 w5 => ⟨F5, A5, s2.ρ, s2.m, n'.trans (n3.trans n5), w5, by simp only [eb] at q3; exact q3.later n5⟩⟩
        | some (.ct, s2), q3 => exact ⟨_, _, rfl, fun F5 A5 σ5 H5 n5 w5 => ⟨F5, A5, s2.ρ, s2.m, n'.trans (n3.trans n5), w5, by simp only [eb] at q3; exact q3.later n5⟩⟩
        | some (.bk, s2), q3 =>
          simp only [eb] at q3
          obtain ⟨_, _, z, h⟩ := q3
          cases z
          exact ⟨_, _, rfl, h⟩
        | some (.rt r, s2), q3 =>
          simp only [eb] at q3
          obtain ⟨_, _, z, h⟩ := q3
          cases z
          exact ⟨_, _, rfl, h⟩
        | some (.ex C fs, s2), q3 =>
          simp only [eb] at q3
          obtain ⟨_, _, z, h⟩ := q3
          cases z
          exact ⟨_, _, rfl, h⟩
    · have ei : i = ts.length := by omega
      refine .inl ⟨(wk F' A' G m' n'.sub w'.os i).2 (by omega), ?_⟩
      rw [List.drop_eq_nil_of_le (by omega)] at q'
      exact q'.nx w'⟩
end
end Vs
end
section
/-! Vs5: arguments, displays, the methods of lists, what is frozen, while. -/
namespace Vs
open PySem PySem.Spec PyProof.Rows L2
variable [WW]
section
variable {α γ δ : Type} {K : PySem.W.Frag} {W : WX} {X : Cx}
theorem Got.fin {σ : L2.St} {ρ : List (Option Sl)} {F F1 : Hp} {A A1 : List Addr} {H H1 : Hp} {R2 : Hp → List Addr → Hp → δ → γ → Prop} {c : γ} {m : List MO} {d : δ} {Q : δ → Hp → Prop} (h : Got K W σ ρ F A H R2 (rM c m) Q) (n : Nxt F A H F1 A1 H1) (w : Wd K F1 A1 ρ m σ H1) (r : R2 F1 A1 H1 d c) : Q d H1 := (Got.later h n).now w r
theorem Nxt.back {F F1 : Hp} {A A1 : List Addr} {H H1 : Hp} {m : List MO} {p : Addr} (n : Nxt F A H F1 A1 H1) (o : Objs K F1 A1 m H1) (np : H1 p = none) : H p = none := by
  cases e : H p with
  | none => rfl
  | some u =>
    by_cases hp : p ∈ A
    · obtain ⟨β, hb⟩ := n.pre
      obtain ⟨u, z⟩ := o.there p (by rw [← hb]; exact List.mem_append_left _ hp)
      rw [np] at z; cases z
    · obtain ⟨v, ev⟩ := n.stays p u e hp; rw [ev] at np; cases np
/-! ### arguments, displays -/
def vNil : VA := fun s => rM [] s.m
def vCons (f : VE) (g : VA) : VA := fun s => bM (f s) fun a m1 => bM (g ⟨s.ρ, m1⟩) fun as m2 => rM (a :: as) m2
theorem pa_vnil : PA X [] (LA K W vNil) := PA.imp pa_nil fun σ H Q ⟨F, A, ρ, m, w, g⟩ => g.now w .nil
theorem pa_vcons {e : Expr} {es : List Expr} {f : VE} {g : VA} (he : PE X e (LE K W f)) (hr : PA X es (LA K W g)) (hs : starEach (e :: es) X.env = (false, eval e X.env) :: starEach es X.env := by rfl) : PA X (e :: es) (LA K W (vCons f g)) := PA.imp (pa_cons he hr hs) fun σ H Q ⟨F, A, ρ, m, w, g⟩ =>
  ⟨F, A, ρ, m, w, (Got.bind (R1 := rS K) g).mono fun x H1 ⟨F1, A1, m1, a, n1, w1, ra, g1⟩ =>
    ⟨F1, A1, ρ, m1, w1, (Got.bind (R1 := fun F' A' _ vs ss => RpSs K F' A' vs ss) g1).mono fun xs H2 ⟨F2, A2, m2, as, n2, w2, rs, g2⟩ => g2.now w2 (.cons (ra.next n2.sub n2.pre) rs)⟩⟩
def vals : List Sl → Option (List T)
  | [] => some []
  | .val t :: r => (vals r).map (t :: ·)
  | .own _ :: _ => none
theorem vals_rp {F : Hp} {A : List Addr} : ∀ {vs : List V} {ss : List Sl} {ts : List T}, RpSs K F A vs ss → vals ss = some ts → RpL K F vs ts
  | _, _, _, .nil, e => by cases e; exact .nil
  | _, .val t :: r, ts, .cons h q, e => by
    unfold vals at e
    cases z : vals r with
    | none => rw [z] at e; cases e
    | some us => rw [z] at e; cases e; exact .cons h (vals_rp q z)
  | _, .own i :: r, ts, .cons h q, e => by cases e
abbrev SZ : Nat := 1000000
theorem sz_le {n : Nat} (h : n ≤ SZ) : n ≤ sizeLine := Nat.le_trans h (by decide)
theorem sz_lt {n : Nat} (h : n < SZ) : n < sizeLine := Nat.lt_of_lt_of_le h (by decide)
def gSeqD (c : List T → T) (ss : List Sl) (m : List MO) : M Sl := match vals ss with
  | some ts => if ts.length ≤ SZ then rM (.val (c ts)) m else none
  | none => none
def vTup (f : VA) : VE := fun s => bM (f s) (gSeqD .tup)
theorem none_got {σ : L2.St} {ρ : List (Option Sl)} {F : Hp} {A : List Addr} {H : Hp} {R2 : Hp → List Addr → Hp → δ → γ → Prop} {Q : δ → Hp → Prop} {P : Prop} (h : Got K W σ ρ F A H R2 (none : M γ) Q) : P := by
  obtain ⟨_, _, z, _⟩ := h; cases z
theorem pe_vtup {es : List Expr} {k : Nat} {f : VA} {pos : Pos} (h : PA X es (LA K W f)) : PE X (.Tuple es k pos) (LE K W (vTup f)) := PE.imp (pe_tup h) fun σ H Q ⟨F, A, ρ, m, w, g⟩ =>
  ⟨F, A, ρ, m, w, (Got.bind (R1 := fun F' A' _ vs ss => RpSs K F' A' vs ss) g).mono fun xs H1 ⟨F1, A1, m1, ss, n1, w1, rs, q⟩ => by
    unfold gSeqD at q
    cases e : vals ss with
    | none => rw [e] at q; exact none_got q
    | some ts =>
      simp only [e] at q
      have r := vals_rp rs e
      by_cases z : ts.length ≤ SZ
      · rw [if_pos z] at q
        exact ⟨by rw [r.length]; exact sz_le z, fun p np => q.fin (Nxt.new w1.os np) (w1.of (same_new (w1.os.fnone np)) (List.prefix_refl _) (w1.os.new np)) (.tup (SqT.of upd_same) (r.same (same_new (w1.os.fnone np))))⟩
      · rw [if_neg z] at q; exact none_got q⟩
/-- a new list that is nobody's yet -/
def gNew (ss : List Sl) (m : List MO) : M (List T) := match vals ss with
  | some ts => if ts.length ≤ SZ then rM ts m else none
  | none => none
theorem new_list {σ : L2.St} {ρ : List (Option Sl)} {F0 F : Hp} {A0 A : List Addr} {H0 H : Hp} {m : List MO} {Q : VK} {xs : List V} {ts : List T} {p : Addr} (n0 : Nxt F0 A0 H0 F A H) (q : Got K W σ ρ F A H (fun F' A' H' v ts => rN K F' A' H' v ts ∧ ∀ p, v = .ref p → H0 p = none) (rM ts m) Q) (w : Wd K F A ρ m σ H) (np : H p = none) (r : RpL K F xs ts) (z : ts.length ≤ SZ) : Q (.ref p) (upd H p (.lst xs)) :=
  q.fin ⟨Same.refl _, List.prefix_refl _, fun _ _ e => .inl e, fun _ h => .inl h, fun a o e _ => .inr (by rw [upd_ne (ne_of_none e np)]; exact e)⟩ (w.of (Same.refl _) (List.prefix_refl _) (w.os.keep np)) ⟨⟨p, xs, rfl, w.os.fnone np, w.os.notin np, upd_same, r, z⟩, fun p' e => by cases e; exact n0.back w.os np⟩
def vLst (f : VA) : VN := fun s => bM (f s) gNew
theorem pe_vlst {es : List Expr} {f : VA} {pos : Pos} (h : PA X es (LA K W f)) : PE X (.List es pos) (LN K W (vLst f)) := PE.imp (pe_lst h) fun σ H Q ⟨F, A, ρ, m, w, g⟩ =>
  ⟨F, A, ρ, m, w, (Got.bind (R1 := fun F' A' _ vs ss => RpSs K F' A' vs ss) g).mono fun xs H1 ⟨F1, A1, m1, ss, n1, w1, rs, q⟩ => by
    unfold gNew at q
    cases e : vals ss with
    | none => rw [e] at q; exact none_got q
    | some ts =>
      simp only [e] at q
      have r := vals_rp rs e
      by_cases z : ts.length ≤ SZ
      · rw [if_pos z] at q
        exact ⟨by rw [r.length]; exact sz_le z, fun p np => new_list n1 q w1 np r z⟩
      · rw [if_neg z] at q; exact none_got q⟩
/-! ### objects changed -/
theorem Objs.write {F : Hp} {A : List Addr} {m : List MO} {H : Hp} {i : Nat} {a : Addr} {o : MO} {u : HO} (h : Objs K F A m H) (ea : A[i]? = some a) (fa : F a = none) (mr : MRep K F A (upd H a u) a o) : Objs K F A (m.set i o) (upd H a u) where
  sub := fun b v e => by
    have ne : b ≠ a := fun z => by rw [z, fa] at e; cases e
    rw [upd_ne ne]; exact h.sub b v e
  len := by rw [List.length_set]; exact h.len
  nd := h.nd
  there := fun b hb => by
    by_cases z : b = a
    · subst z; exact ⟨_, upd_same⟩
    · rw [upd_ne z]; exact h.there b hb
  obj := fun j b v h1 h2 => by
    by_cases z : i = j
    · subst z
      rw [ea] at h1
      cases h1
      have hl : i < m.length := by
        have := (List.getElem?_eq_some_iff.mp h2).1
        rw [List.length_set] at this
        exact this
      rw [List.getElem?_set_self hl] at h2
      cases h2
      exact mr
    · rw [List.getElem?_set_ne z] at h2
      have ne : b ≠ a := fun q => by
        subst q
        obtain ⟨l1, e1⟩ := List.getElem?_eq_some_iff.mp ea
        obtain ⟨l2, e2⟩ := List.getElem?_eq_some_iff.mp h1
        exact z ((List.getElem_inj h.nd).mp (e1.trans e2.symm))
      exact (h.obj j b v h1 h2).next (Same.refl _) (List.prefix_refl _) (fun o e => by rw [upd_ne ne]; exact e) id
  gho := h.gho
  tab := fun q hq => ⟨(h.tab q hq).1, (h.tab q hq).2.next (Same.refl _) (h.tab q hq).2.1 (fun o e => by
    have ne : q.1 ≠ a := fun z => (h.tab q hq).1 (z ▸ List.mem_of_getElem? ea)
    rw [upd_ne ne]; exact e)⟩
theorem Nxt.write {F : Hp} {A : List Addr} {H : Hp} {a : Addr} {u : HO} (ha : a ∈ A) : Nxt F A H F A (upd H a u) :=
  ⟨Same.refl _, List.prefix_refl _, fun _ _ e => .inl e, fun _ h => .inl h, fun b o e hb => by
    have ne : b ≠ a := fun z => hb (by rw [z]; exact ha)
    exact .inr (by rw [upd_ne ne]; exact e)⟩
/-- xs.append(e) -/
def gAppend (o : Sl) (ss : List Sl) (m : List MO) : M Sl := match o, ss with
  | .own i, [.val t] => match m[i]? with
    | some (.lst ts) => if ts.length < SZ then rM (.val .non) (m.set i (.lst (ts ++ [t]))) else none
    | _ => none
  | _, _ => none
def isLst (o : Sl) (m : List MO) : Bool := match o with
  | .own i => match m[i]? with
    | some (.lst _) => true
    | _ => false
  | _ => false
/-- a method of a list object -/
def vMet (g : Sl → List Sl → List MO → M Sl) (fo : VE) (fa : VA) : VE := fun s => bM (fo s) fun o m1 => if isLst o m1 = true then bM (fa ⟨s.ρ, m1⟩) fun ss m2 => g o ss m2 else none
def MetV (K : PySem.W.Frag) (r : V → List V → Hp → VK → Prop) (g : Sl → List Sl → List MO → M Sl) : Prop :=
  ∀ (W : WX) (F : Hp) (A : List Addr) (ρ : List (Option Sl)) (m : List MO) (σ : L2.St) (H : Hp) (x : V) (xs : List V) (a : Sl) (ss : List Sl) (Q : VK), Wd K F A ρ m σ H → RpS K F A x a → RpSs K F A xs ss → Got K W σ ρ F A H (rS K) (g a ss m) Q → r x xs H Q
theorem isLst_at {F : Hp} {A : List Addr} {m : List MO} {H : Hp} {o : Sl} {x : V} (h : Objs K F A m H) (r : RpS K F A x o) (e : isLst o m = true) : ∃ i a ts xs, o = .own i ∧ x = .ref a ∧ A[i]? = some a ∧ m[i]? = some (.lst ts) ∧ F a = none ∧ H a = some (.lst xs) ∧ RpL K F xs ts := by
  cases o with
  | val t => cases e
  | own i =>
    obtain ⟨a, h1, h2⟩ := r
    unfold isLst at e
    simp only at e
    split at e
    · rename_i ts em
      obtain ⟨fa, xs, h3, h4⟩ := h.obj i a _ h1 em
      exact ⟨i, a, ts, xs, rfl, h2, h1, em, fa, h3, h4⟩
    · cases e
theorem le_met {r : V → List V → Hp → VK → Prop} {g : Sl → List Sl → List MO → M Sl} {fo : VE} {fa : VA} (hv : MetV K r g) {σ : L2.St} {H : Hp} {Q : VK} (h : LE K W (vMet g fo fa) σ H Q) : tBM K "list" r (LE K W fo) (LA K W fa) σ H Q := by
  obtain ⟨F, A, ρ, m, w, got⟩ := h
  refine ⟨F, A, ρ, m, w, (Got.bind (R1 := rS K) got).mono fun x H1 ⟨F1, A1, m1, o, n1, w1, ro, q⟩ => ?_⟩
  by_cases e : isLst o m1 = true
  · rw [if_pos e] at q
    obtain ⟨i, a, ts, xs, rfl, rfl, ea, em, fa', eh, rl⟩ := isLst_at w1.os ro e
    refine ⟨.inl ⟨rfl, xs, SqL.of eh⟩, F1, A1, ρ, m1, w1, (Got.bind (R1 := fun F' A' _ vs ss => RpSs K F' A' vs ss) q).mono fun vs H2 ⟨F2, A2, m2, ss, n2, w2, rs, g2⟩ => ?_⟩
    exact hv W F2 A2 ρ m2 σ H2 _ vs _ ss Q w2 (RpS.next n2.sub n2.pre (s := .own i) ⟨a, ea, rfl⟩) rs g2
  · rw [if_neg e] at q; exact none_got q
theorem mv_append : MetV K rAppend gAppend := by
  intro W F A ρ m σ H x xs o ss Q w ro rs g
  unfold gAppend at g
  split at g
  · rename_i i t
    split at g
    · rename_i ts em
      by_cases z : ts.length < SZ
      · rw [if_pos z] at g
        obtain ⟨a, ea, rfl⟩ := ro
        obtain ⟨fa, ys, eh, rl⟩ := w.os.obj i a _ ea em
        cases rs with
        | cons rt r' =>
          cases r'
          refine ⟨a, ys, _, rfl, rfl, eh, by rw [rl.length]; exact sz_lt z, ?_⟩
          exact g.fin (Nxt.write (List.mem_of_getElem? ea)) (w.of (Same.refl _) (List.prefix_refl _) (w.os.write ea fa ⟨fa, _, upd_same, rl.append (.cons rt .nil)⟩)) (show Rp K F .non .non from .non)
      · rw [if_neg z] at g; exact none_got g
    · exact none_got g
  · exact none_got g
theorem pe_vappend {o e : Expr} {fo : VE} {fa : VA} {apos cpos : Pos} (ho : PE X o (LE X.K W fo)) (ha : PA X [e] (LA X.K W fa)) (hbase : attributeBase o "append" X.env (eval o X.env) = eval o X.env := by rfl)
    (hfew : ((backTo cpos (starEach (e :: []) X.env)).all (fun x => !x.1) && (backToKw cpos (keywordEach [] X.env)).all (fun x => x.1.isSome) && decide ((e :: []).length + ([] : List Keyword).length + (if ([] : List Keyword).isEmpty then 0 else 1) < 30)) = true := by rfl)
    (hline : (apos.endLine == cpos.line) = true := by rfl) (hs : starEach (e :: []) X.env = (false, eval e X.env) :: starEach [] X.env := by rfl) (hplain : (backTo cpos (starEach [] X.env)).any (·.1) = false := by rfl) :
    PE X (.Call (.Attribute o "append" apos) [e] [] cpos) (LE X.K W (vMet gAppend fo fa)) := PE.imp (pe_bm PySem.F.plainAttrs_list PySem.F.slot_list_append PySem.F.type_list_append mt_append ho ha hbase hfew hline hs hplain) fun _ _ _ => le_met mv_append
/-! ### a list that is changed no more -/
theorem freeze {F : Hp} {A : List Addr} {ρ : List (Option Sl)} {m : List MO} {σ : L2.St} {H : Hp} {i : Nat} {a : Addr} {ts : List T} {xs : List V} (w : Wd K F A ρ m σ H) (ea : A[i]? = some a) (em : m[i]? = some (.lst ts)) (fa : F a = none) (eh : H a = some (.lst xs)) :
    Nxt F A H (upd F a (.lst xs)) A H ∧ Wd K (upd F a (.lst xs)) A ρ (m.set i .dead) σ H := by
  have s1 : Same F (upd F a (.lst xs)) := same_new fa
  refine ⟨⟨s1, List.prefix_refl _, fun b u e => ?_, fun _ h => .inl h, fun _ _ e _ => .inr e⟩, w.of s1 (List.prefix_refl _) ⟨fun b u e => ?_, by rw [List.length_set]; exact w.os.len, w.os.nd, w.os.there, fun j b o h1 h2 => ?_, w.os.gho.trans s1, w.os.tabFrz fa eh⟩⟩
  · by_cases z : b = a
    · subst z; exact .inr (.inr (List.mem_of_getElem? ea))
    · rw [upd_ne z] at e; exact .inl e
  · by_cases z : b = a
    · subst z; rw [upd_same] at e; rw [eh]; exact e
    · rw [upd_ne z] at e; exact w.os.sub b u e
  · by_cases z : i = j
    · subst z
      have hl : i < m.length := by
        have := (List.getElem?_eq_some_iff.mp h2).1
        rw [List.length_set] at this
        exact this
      rw [List.getElem?_set_self hl] at h2
      cases h2
      trivial
    · rw [List.getElem?_set_ne z] at h2
      have ne : b ≠ a := fun q => by
        subst q
        obtain ⟨l1, e1⟩ := List.getElem?_eq_some_iff.mp ea
        obtain ⟨l2, e2⟩ := List.getElem?_eq_some_iff.mp h1
        exact z ((List.getElem_inj w.os.nd).mp (e1.trans e2.symm))
      exact (w.os.obj j b o h1 h2).next s1 (List.prefix_refl _) (fun _ e => e) fun e => by rw [upd_ne ne]; exact e
/-! ### while, at most N turns -/
def vWh (c : VT) (b : VS) : Nat → S → R
  | 0, _ => none
  | n + 1, s => bS s.ρ (c s) fun t m => if t = true then (match b ⟨s.ρ, m⟩ with
      | some (.nx, s2) => vWh c b n s2
      | some (.ct, s2) => vWh c b n s2
      | some (.bk, s2) => some (.nx, s2)
      | x => x) else some (.nx, ⟨s.ρ, m⟩)
theorem ps_vwhile (N : Nat) {c : Expr} {body : List Stmt} {fc : VT} {b : VS} {pos : Pos} (hp : PassesOwn (model X.prog X.w) X.A X.env X.xe) (hc : PT X c (LT K W fc)) (hb : PSs X body (LS K W b)) : PS X (.While c body [] pos) (LS K W (vWh fc b N)) := PS.imp (ps_while hp hc hb) fun D σ H ⟨F, A, ρ, m, w, r⟩ => by
  refine ⟨fun k τ G => ∃ F' A' ρ' m', Nxt F A H F' A' G ∧ Wd K F' A' ρ' m' τ G ∧ Ran K W F' A' G D (vWh fc b k ⟨ρ', m'⟩), ⟨N, F, A, ρ, m, Nxt.refl, w, r⟩, ?_⟩
  rintro k τ G ⟨F', A', ρ', m', n', w', q⟩
  cases k with
  | zero => obtain ⟨_, _, z, _⟩ := q; cases z
  | succ k =>
    unfold vWh at q
    refine ⟨F', A', ρ', m', w', (Ran.bS (fun _ _ _ b c => b = c) q).mono fun t H1 ⟨F1, A1, m1, a, n1, w1, ra, q1⟩ => ?_⟩
    cases ra
    cases t with
    | false => rw [if_neg Bool.false_ne_true] at q1 ⊢; exact q1.nx w1
    | true =>
      rw [if_pos rfl] at q1 ⊢
      refine ⟨fun τ2 G2 => ∃ F2 A2 ρ2 m2, Nxt F A H F2 A2 G2 ∧ Wd K F2 A2 ρ2 m2 τ2 G2 ∧ Ran K W F2 A2 G2 D (vWh fc b k ⟨ρ2, m2⟩), fun τ2 G2 z => ⟨k, Nat.lt_succ_self k, z⟩, F1, A1, ρ', m1, w1, ?_⟩
      match eb : b ⟨ρ', m1⟩, q1 with
      | none, q3 => obtain ⟨_, _, z, _⟩ := q3; simp only [eb] at z; cases z
      | some (.nx, s2), q3 => exact ⟨_, _, rfl, fun F5 A5 σ5 H5 n5 w5 => ⟨F5, A5, s2.ρ, s2.m, n'.trans (n1.trans n5), w5, by simp only [eb] at q3; exact q3.later n5⟩⟩
      | some (.ct, s2), q3 => exact ⟨_, _, rfl, fun F5 A5 σ5 H5 n5 w5 => ⟨F5, A5, s2.ρ, s2.m, n'.trans (n1.trans n5), w5, by simp only [eb] at q3; exact q3.later n5⟩⟩
      | some (.bk, s2), q3 =>
        simp only [eb] at q3
        obtain ⟨_, _, z, h⟩ := q3
        cases z
        exact ⟨_, _, rfl, h⟩
      | some (.rt r, s2), q3 =>
        simp only [eb] at q3
        obtain ⟨_, _, z, h⟩ := q3
        cases z
        exact ⟨_, _, rfl, h⟩
      | some (.ex C fs, s2), q3 =>
        simp only [eb] at q3
        obtain ⟨_, _, z, h⟩ := q3
        cases z
        exact ⟨_, _, rfl, h⟩
end
end Vs
end
section
/-! Vs6: defs as functions of values and stores, their calls; objects are lent. -/
namespace Vs
open PySem PySem.Spec PyProof.Rows L2
variable [WW]
abbrev VF := List Sl → List MO → M Sl
/-- a def promises what the function says -/
def SpV (K : PySem.W.Frag) (np : Nat) (vf : VF) : Sp := fun vs H Q E => vs.length = np ∧ ∃ F A args m, Objs K F A m H ∧ RpSs K F A vs args ∧ ∃ o m', vf args m = some (o, m') ∧ match o with
  | .ok r => ∀ F' A' v H', Nxt F A H F' A' H' → Objs K F' A' m' H' → RpS K F' A' v r → Q v H'
  | .ex C fs => ∀ F' A' d ws H', Nxt F A H F' A' H' → Objs K F' A' m' H' → RpF K F' ws fs → H' d = some (.xd ws) → E (.ref C) (some d) H'
def vDef (nl : Nat) (b : VS) : VF := fun args m => match b ⟨args.map some ++ List.replicate (nl - args.length) none, m⟩ with
  | some (.rt r, s) => some (.ok r, s.m)
  | some (.nx, s) => some (.ok (.val .non), s.m)
  | some (.ex C fs, s) => some (.ex C fs, s.m)
  | _ => none
theorem RpSs.length {K : PySem.W.Frag} {F : Hp} {A : List Addr} : ∀ {vs : List V} {ss : List Sl}, RpSs K F A vs ss → vs.length = ss.length
  | _, _, .nil => rfl
  | _, _, .cons _ r => by rw [List.length_cons, List.length_cons, RpSs.length r]
theorem RpSs.get {K : PySem.W.Frag} {F : Hp} {A : List Addr} : ∀ {vs : List V} {ss : List Sl} {i : Nat} {s : Sl}, RpSs K F A vs ss → ss[i]? = some s → ∃ v, vs[i]? = some v ∧ RpS K F A v s
  | _, _, i, t, .nil, e => by simp at e
  | _, _, 0, t, .cons a r, e => by
    rw [List.getElem?_cons_zero] at e
    cases e
    exact ⟨_, rfl, a⟩
  | _, _, i + 1, t, .cons a r, e => by
    rw [List.getElem?_cons_succ] at e
    obtain ⟨v, h1, h2⟩ := RpSs.get r e
    exact ⟨v, by rw [List.getElem?_cons_succ]; exact h1, h2⟩
theorem wd_start {K : PySem.W.Frag} {F : Hp} {A : List Addr} {m : List MO} {H : Hp} {N : List Str} {vs : List V} {args : List Sl} (o : Objs K F A m H) (r : RpSs K F A vs args) : Wd K F A (args.map some ++ List.replicate (N.length - args.length) none) m (L2.start N vs) H := by
  have hl := r.length
  refine ⟨o, fun i s e => ?_, ?_⟩
  · by_cases hi : i < args.length
    · rw [List.getElem?_append_left (by rw [List.length_map]; exact hi), List.getElem?_map] at e
      cases z : args[i]? with
      | none => rw [z] at e; cases e
      | some t =>
        rw [z] at e
        cases e
        obtain ⟨v, h1, h2⟩ := r.get z
        refine ⟨v, ?_, h2⟩
        unfold L2.start
        rw [List.getElem?_append_left (by rw [List.length_map, hl]; exact hi), List.getElem?_map, h1]
        rfl
    · rw [List.getElem?_append_right (by rw [List.length_map]; omega), List.getElem?_replicate] at e
      split at e <;> cases e
  · unfold L2.start
    rw [List.length_append, List.length_append, List.length_map, List.length_map, List.length_replicate, List.length_replicate, hl]
section
variable {P : Program} {w : World} {K : PySem.W.Frag} {mg : Str → Option Value} {base : Heap}
/-- THE RULE for a def: its body's rules -/
theorem okV {x qual : Str} {st : Stmt} {f : Addr} {fd : FuncData} {N ps : List Str} {k : Nat} {b : VS} (F : Fun K x qual st f fd) (S : FnScope N ps (defScope st))
    (hb : ∀ (cdv : Value) (A : Around) (outer : List Env) (s : Shared) (H : Hp) (E : XK), Room k (A.deeper (envOfC qual (defScope st) s.heap.objs.size f cdv)) →
      PSs (cxOf (L2.CX P w) P w K mg base N qual (defScope st) f cdv A outer s H E) (defBody st) (LS K (fun cls d _ H => E cls d H) b)) : FnOk P w K mg base (L2.CX P w) (k + 1) f fd ps (SpV K ps.length (vDef N.length b)) := by
  refine F.okX S (fun vs H Q E h => h.1) (fun cdv A outer s H vs Q E hr h => ⟨_, hb cdv A outer s H E hr, ?_⟩)
  obtain ⟨hl, F0, A0, args, m, o, r, out, m', ev, hq⟩ := h
  unfold vDef at ev
  refine ⟨F0, A0, _, m, wd_start (N := N) o r, ?_⟩
  split at ev
  · rename_i rr s' eb
    cases ev
    exact ⟨_, _, eb, fun F' A' σ' v H' n w' rv => hq F' A' v H' n w'.os rv⟩
  · rename_i s' eb
    cases ev
    exact ⟨_, _, eb, fun F' A' σ' H' n w' => hq F' A' .non H' n w'.os (show Rp K F' .non .non from .non)⟩
  · rename_i C fs s' eb
    cases ev
    exact ⟨_, _, eb, fun F' A' σ' d ws H' n w' rf hd => hq F' A' d ws H' n w'.os rf hd⟩
  · cases ev
end
/-! ### what a def made for itself is forgotten -/
section
variable {K : PySem.W.Frag} {F : Hp} {A A' : List Addr}
end
end Vs
end
section
/-! Vs7: calls of defs; the objects that the arguments reach are lent under numbers of their own. -/
namespace Vs
open PySem PySem.Spec PyProof.Rows L2
variable [WW]
def kidsF : List (Str × Sl) → List Nat
  | [] => []
  | (_, .own i) :: r => i :: kidsF r
  | _ :: r => kidsF r
def kidsL : List Sl → List Nat
  | [] => []
  | .own i :: r => i :: kidsL r
  | _ :: r => kidsL r
def kids : Option MO → List Nat
  | some (.rcd fs) => kidsF fs
  | some (.ins _ fs) => kidsF fs
  | some (.lsO ss) => kidsL ss
  | _ => []
def grow (m : List MO) : Nat → List Nat → List Nat → List Nat
  | 0, _, acc => acc
  | _, [], acc => acc
  | n + 1, i :: r, acc => if i ∈ acc then grow m n r acc else grow m n (kids m[i]? ++ r) (acc ++ [i])
def owns : List Sl → List Nat
  | [] => []
  | .own i :: r => i :: owns r
  | _ :: r => owns r
/-- where i stands in ids -/
def ixOf (ids : List Nat) (i : Nat) : Option Nat := match ids with
  | [] => none
  | j :: r => if j = i then some 0 else (ixOf r i).map (· + 1)
theorem ixOf_get : ∀ {ids : List Nat} {i j : Nat}, ixOf ids i = some j → ids[j]? = some i
  | [], i, j, e => by cases e
  | k :: r, i, j, e => by
    unfold ixOf at e
    split at e
    · rename_i h; cases e; rw [h]; rfl
    · cases z : ixOf r i with
      | none => rw [z] at e; cases e
      | some n => rw [z] at e; cases e; rw [List.getElem?_cons_succ]; exact ixOf_get z
theorem ixOf_none : ∀ {ids : List Nat} {i : Nat}, ixOf ids i = none → i ∉ ids
  | [], i, _ => by simp
  | k :: r, i, e => by
    unfold ixOf at e
    split at e
    · cases e
    · rename_i h
      cases z : ixOf r i with
      | none => exact fun q => (List.mem_cons.mp q).elim (fun q => h q.symm) (ixOf_none z)
      | some n => rw [z] at e; cases e
def renS (ids : List Nat) : Sl → Option Sl
  | .val t => some (.val t)
  | .own i => (ixOf ids i).map .own
def renSs (ids : List Nat) : List Sl → Option (List Sl)
  | [] => some []
  | s :: r => match renS ids s, renSs ids r with
    | some t, some u => some (t :: u)
    | _, _ => none
def renF (ids : List Nat) : List (Str × Sl) → Option (List (Str × Sl))
  | [] => some []
  | (x, s) :: r => match renS ids s, renF ids r with
    | some t, some u => some ((x, t) :: u)
    | _, _ => none
def renM (ids : List Nat) : MO → Option MO
  | .lst ts => some (.lst ts)
  | .rcd fs => (renF ids fs).map .rcd
  | .ins C fs => (renF ids fs).map (.ins C)
  | .lsO ss => (renSs ids ss).map .lsO
  | .dct ps => some (.dct ps)
  | .dctL ps => some (.dctL ps)
  | .dead => some .dead
def renMs (ids : List Nat) (m : List MO) : List Nat → Option (List MO)
  | [] => some []
  | i :: r => match m[i]? with
    | none => none
    | some o => match renM ids o, renMs ids m r with
      | some t, some u => some (t :: u)
      | _, _ => none
def back (ids : List Nat) (k : Nat) (j : Nat) : Nat := match ids[j]? with
  | some i => i
  | none => k + (j - ids.length)
def backS (ids : List Nat) (k : Nat) : Sl → Sl
  | .val t => .val t
  | .own j => .own (back ids k j)
def backF (ids : List Nat) (k : Nat) : List (Str × Sl) → List (Str × Sl)
  | [] => []
  | (x, s) :: r => (x, backS ids k s) :: backF ids k r
def backSs (ids : List Nat) (k : Nat) : List Sl → List Sl
  | [] => []
  | s :: r => backS ids k s :: backSs ids k r
def backM (ids : List Nat) (k : Nat) : MO → MO
  | .lst ts => .lst ts
  | .rcd fs => .rcd (backF ids k fs)
  | .ins C fs => .ins C (backF ids k fs)
  | .lsO ss => .lsO (backSs ids k ss)
  | .dct ps => .dct ps
  | .dctL ps => .dctL ps
  | .dead => .dead
/-- the store with the lent objects as they are now, i the number of the first -/
def putFrom (ids : List Nat) (k : Nat) (sub : List MO) : List MO → Nat → List MO
  | [], _ => []
  | o :: r, i => (match ixOf ids i with
    | some j => match sub[j]? with
      | some u => backM ids k u
      | none => o
    | none => o) :: putFrom ids k sub r (i + 1)
def putAll (ids : List Nat) (m sub : List MO) : List MO := putFrom ids m.length sub m 0 ++ (sub.drop ids.length).map (backM ids m.length)
def backO (ids : List Nat) (k : Nat) : Out Sl → Out Sl
  | .ok s => .ok (backS ids k s)
  | .ex C fs => .ex C fs
def callM (vf : VF) (args : List Sl) (m : List MO) : M Sl :=
  let ids := grow m 100 (owns args) []
  if ids.Nodup then match renSs ids args, renMs ids m ids with
    | some as, some sub => match vf as sub with
      | some (o, sub') => if ids.length ≤ sub'.length then some (backO ids m.length o, putAll ids m sub') else none
      | none => none
    | _, _ => none
  else none
theorem putFrom_len {ids : List Nat} {k : Nat} {sub : List MO} : ∀ {m : List MO} {i : Nat}, (putFrom ids k sub m i).length = m.length
  | [], _ => rfl
  | o :: r, i => by
    show (putFrom ids k sub r (i + 1)).length + 1 = _
    rw [putFrom_len, List.length_cons]
theorem putFrom_get {ids : List Nat} {k : Nat} {sub : List MO} : ∀ {m : List MO} {i n : Nat} {o : MO}, m[n]? = some o → (putFrom ids k sub m i)[n]? = some (match ixOf ids (i + n) with
    | some j => match sub[j]? with
      | some u => backM ids k u
      | none => o
    | none => o)
  | [], i, n, o, e => by simp at e
  | u :: r, i, 0, o, e => by
    rw [List.getElem?_cons_zero] at e
    cases e
    rfl
  | u :: r, i, n + 1, o, e => by
    rw [List.getElem?_cons_succ] at e
    show (putFrom ids k sub r (i + 1))[n]? = _
    rw [putFrom_get e, show i + 1 + n = i + (n + 1) by omega]
section
variable {K : PySem.W.Frag} {F : Hp} {A : List Addr}
/-- the lent addresses -/
def lent (A : List Addr) (ids : List Nat) : List Addr := ids.map fun i => A.getD i 0
theorem lent_get {ids : List Nat} {i j : Nat} {a : Addr} (h : ids[j]? = some i) (e : A[i]? = some a) : (lent A ids)[j]? = some a := by
  unfold lent
  rw [List.getElem?_map, h]
  show some (A.getD i 0) = some a
  rw [List.getD_eq_getElem?_getD, e]
  rfl
theorem renS_rp {ids : List Nat} {v : V} {s t : Sl} (e : renS ids s = some t) (h : RpS K F A v s) : RpS K F (lent A ids) v t := by
  cases s with
  | val x => cases e; exact h
  | own i =>
    obtain ⟨a, h1, h2⟩ := h
    change (ixOf ids i).map Sl.own = some t at e
    cases z : ixOf ids i with
    | none => rw [z] at e; cases e
    | some j => rw [z] at e; cases e; exact ⟨a, lent_get (ixOf_get z) h1, h2⟩
theorem renSs_rp {ids : List Nat} : ∀ {vs : List V} {ss ts : List Sl}, renSs ids ss = some ts → RpSs K F A vs ss → RpSs K F (lent A ids) vs ts
  | _, _, ts, e, .nil => by cases e; exact .nil
  | _, s :: r, ts, e, .cons h q => by
    unfold renSs at e
    split at e
    · rename_i t u e1 e2
      cases e
      exact .cons (renS_rp e1 h) (renSs_rp e2 q)
    · cases e
theorem renF_rp {ids : List Nat} : ∀ {vs : List (Str × V)} {ss ts : List (Str × Sl)}, renF ids ss = some ts → RpG K F A vs ss → RpG K F (lent A ids) vs ts
  | _, _, ts, e, .nil => by cases e; exact .nil
  | _, (x, s) :: r, ts, e, .cons h q => by
    unfold renF at e
    split at e
    · rename_i t u e1 e2
      cases e
      exact .cons (renS_rp e1 h) (renF_rp e2 q)
    · cases e
theorem renM_rp {ids : List Nat} {H : Hp} {a : Addr} {o u : MO} (e : renM ids o = some u) (h : MRep K F A H a o) : MRep K F (lent A ids) H a u := by
  cases o with
  | lst ts => cases e; exact h
  | rcd fs =>
    obtain ⟨z, vs, h1, h2⟩ := h
    change (renF ids fs).map MO.rcd = some u at e
    cases y : renF ids fs with
    | none => rw [y] at e; cases e
    | some g => rw [y] at e; cases e; exact ⟨z, vs, h1, renF_rp y h2⟩
  | ins C fs =>
    obtain ⟨z, dx, vs, h1, h2⟩ := h
    change (renF ids fs).map (MO.ins C) = some u at e
    cases y : renF ids fs with
    | none => rw [y] at e; cases e
    | some g => rw [y] at e; cases e; exact ⟨z, dx, vs, h1, renF_rp y h2⟩
  | lsO ss =>
    obtain ⟨z, vs, h1, h2⟩ := h
    change (renSs ids ss).map MO.lsO = some u at e
    cases y : renSs ids ss with
    | none => rw [y] at e; cases e
    | some g => rw [y] at e; cases e; exact ⟨z, vs, h1, renSs_rp y h2⟩
  | dct ps => cases e; exact h
  | dctL ps => cases e; exact h
  | dead => cases e; trivial
theorem renMs_len {ids : List Nat} {m : List MO} : ∀ {l : List Nat} {sub : List MO}, renMs ids m l = some sub → sub.length = l.length
  | [], sub, e => by cases e; rfl
  | i :: r, sub, e => by
    unfold renMs at e
    split at e
    · cases e
    · split at e
      · rename_i t u _ e2
        cases e
        rw [List.length_cons, List.length_cons, renMs_len e2]
      · cases e
theorem renMs_get {ids : List Nat} {m : List MO} : ∀ {l : List Nat} {sub : List MO} {j : Nat} {u : MO}, renMs ids m l = some sub → sub[j]? = some u → ∃ i o, l[j]? = some i ∧ m[i]? = some o ∧ renM ids o = some u
  | [], sub, j, u, e, h => by cases e; simp at h
  | i :: r, sub, j, u, e, h => by
    unfold renMs at e
    split at e
    · cases e
    · rename_i o eo
      split at e
      · rename_i t us e1 e2
        cases e
        cases j with
        | zero => rw [List.getElem?_cons_zero] at h; cases h; exact ⟨i, o, rfl, eo, e1⟩
        | succ j =>
          rw [List.getElem?_cons_succ] at h
          obtain ⟨i', o', h1, h2, h3⟩ := renMs_get e2 h
          exact ⟨i', o', by rw [List.getElem?_cons_succ]; exact h1, h2, h3⟩
      · cases e
theorem renMs_in {ids : List Nat} {m : List MO} : ∀ {l : List Nat} {sub : List MO}, renMs ids m l = some sub → ∀ i ∈ l, i < m.length
  | [], sub, e, i, h => by simp at h
  | k :: r, sub, e, i, h => by
    unfold renMs at e
    split at e
    · cases e
    · rename_i o eo
      split at e
      · rename_i t us e1 e2
        rcases List.mem_cons.mp h with rfl | h
        · exact (List.getElem?_eq_some_iff.mp eo).1
        · exact renMs_in e2 i h
      · cases e
theorem lent_mem {ids : List Nat} {a : Addr} (hi : ∀ i ∈ ids, i < A.length) (h : a ∈ lent A ids) : ∃ i ∈ ids, A[i]? = some a := by
  obtain ⟨i, h1, h2⟩ := List.mem_map.mp h
  refine ⟨i, h1, ?_⟩
  have e : A[i]? = some (A[i]'(hi i h1)) := List.getElem?_eq_getElem (hi i h1)
  rw [List.getD_eq_getElem?_getD, e] at h2
  rw [e, ← h2]
  rfl
theorem lent_nodup {ids : List Nat} (hn : ids.Nodup) (hA : A.Nodup) (hi : ∀ i ∈ ids, i < A.length) : (lent A ids).Nodup := by
  unfold lent
  refine List.pairwise_map.mpr (List.Pairwise.imp_of_mem (fun {i j} hi' hj' ne q => ne ?_) hn)
  have e1 : A[i]? = some (A[i]'(hi i hi')) := List.getElem?_eq_getElem (hi i hi')
  have e2 : A[j]? = some (A[j]'(hi j hj')) := List.getElem?_eq_getElem (hi j hj')
  rw [List.getD_eq_getElem?_getD, List.getD_eq_getElem?_getD, e1, e2] at q
  exact (List.getElem_inj hA).mp q
theorem objs_lent {ids : List Nat} {m sub : List MO} {H : Hp} (o : Objs K F A m H) (hn : ids.Nodup) (e : renMs ids m ids = some sub) : Objs K F (lent A ids) sub H := by
  have hin : ∀ i ∈ ids, i < A.length := fun i h => by rw [o.len]; exact renMs_in e i h
  refine ⟨o.sub, by rw [renMs_len e]; exact List.length_map .., lent_nodup hn o.nd hin, fun a ha => ?_, fun j a u h1 h2 => ?_, o.gho, fun q hq => ⟨fun z => let ⟨i, _, w⟩ := lent_mem hin z; (o.tab q hq).1 (List.mem_of_getElem? w), (o.tab q hq).2⟩⟩
  · obtain ⟨i, _, q⟩ := lent_mem hin ha
    exact o.there a (List.mem_of_getElem? q)
  · obtain ⟨i, v, h3, h4, h5⟩ := renMs_get e h2
    have hi := hin i (List.mem_of_getElem? h3)
    have ea : A[i]? = some A[i] := List.getElem?_eq_getElem hi
    rw [lent_get h3 ea] at h1
    cases h1
    exact renM_rp h5 (o.obj i _ v ea h4)
end
section
variable {K : PySem.W.Frag} {F' : Hp} {B A' : List Addr} {ids : List Nat} {k : Nat}
theorem backS_rp (key : ∀ (j : Nat) (a : Addr), B[j]? = some a → A'[back ids k j]? = some a) {v : V} {s : Sl} (h : RpS K F' B v s) : RpS K F' A' v (backS ids k s) := by
  cases s with
  | val t => exact h
  | own j => obtain ⟨a, h1, h2⟩ := h; exact ⟨a, key j a h1, h2⟩
theorem backF_rp (key : ∀ (j : Nat) (a : Addr), B[j]? = some a → A'[back ids k j]? = some a) : ∀ {vs : List (Str × V)} {fs : List (Str × Sl)}, RpG K F' B vs fs → RpG K F' A' vs (backF ids k fs)
  | _, _, .nil => .nil
  | _, _, .cons h r => .cons (backS_rp key h) (backF_rp key r)
theorem backSs_rp (key : ∀ (j : Nat) (a : Addr), B[j]? = some a → A'[back ids k j]? = some a) : ∀ {vs : List V} {ss : List Sl}, RpSs K F' B vs ss → RpSs K F' A' vs (backSs ids k ss)
  | _, _, .nil => .nil
  | _, _, .cons h r => .cons (backS_rp key h) (backSs_rp key r)
theorem backM_rp (key : ∀ (j : Nat) (a : Addr), B[j]? = some a → A'[back ids k j]? = some a) {H : Hp} {a : Addr} {o : MO} (h : MRep K F' B H a o) : MRep K F' A' H a (backM ids k o) := by
  cases o with
  | lst ts => exact h
  | rcd fs => obtain ⟨z, vs, h1, h2⟩ := h; exact ⟨z, vs, h1, backF_rp key h2⟩
  | ins C fs => obtain ⟨z, dx, vs, h1, h2⟩ := h; exact ⟨z, dx, vs, h1, backF_rp key h2⟩
  | lsO ss => obtain ⟨z, vs, h1, h2⟩ := h; exact ⟨z, vs, h1, backSs_rp key h2⟩
  | dct ps => exact h
  | dctL ps => exact h
  | dead => trivial
end
/-- behind a call: the lent objects as they are now, new ones behind the old -/
theorem objs_back {K : PySem.W.Frag} {F F' : Hp} {A B : List Addr} {H H' : Hp} {m sub sub' : List MO} {ids : List Nat} (o : Objs K F A m H) (hn : ids.Nodup) (e : renMs ids m ids = some sub) (n : Nxt F (lent A ids) H F' B H') (o' : Objs K F' B sub' H') (hl : ids.length ≤ sub'.length) :
    Nxt F A H F' (A ++ B.drop ids.length) H' ∧ Objs K F' (A ++ B.drop ids.length) (putAll ids m sub') H' ∧ ∀ (j : Nat) (a : Addr), B[j]? = some a → (A ++ B.drop ids.length)[back ids m.length j]? = some a := by
  have hin : ∀ i ∈ ids, i < A.length := fun i h => by rw [o.len]; exact renMs_in e i h
  have ll : (lent A ids).length = ids.length := List.length_map ..
  obtain ⟨β, hβ⟩ := n.pre
  have hd : B.drop ids.length = β := by rw [← hβ, ← ll, List.drop_left]
  rw [hd]
  have inA : ∀ a ∈ lent A ids, a ∈ A := fun a ha => by
    obtain ⟨i, _, q⟩ := lent_mem hin ha
    exact List.mem_of_getElem? q
  have ndB := o'.nd
  rw [← hβ] at ndB
  have apart := (List.nodup_append.mp ndB).2.2
  have newβ : ∀ a ∈ β, H a = none := fun a ha => by
    rcases n.news a (by rw [← hβ]; exact List.mem_append_right _ ha) with z | z
    · exact absurd rfl (apart a z a ha)
    · exact z
  have notA : ∀ a ∈ β, a ∉ A := fun a ha q => by
    obtain ⟨u, z⟩ := o.there a q
    rw [newβ a ha] at z; cases z
  have key : ∀ (j : Nat) (a : Addr), B[j]? = some a → (A ++ β)[back ids m.length j]? = some a := fun j a h => by
    unfold back
    cases z : ids[j]? with
    | some i =>
      have hi := hin i (List.mem_of_getElem? z)
      have ea : A[i]? = some A[i] := List.getElem?_eq_getElem hi
      have hj : j < (lent A ids).length := by rw [ll]; exact (List.getElem?_eq_some_iff.mp z).1
      rw [← hβ, List.getElem?_append_left hj, lent_get z ea] at h
      show (A ++ β)[i]? = some a
      rw [List.getElem?_append_left hi, ea]
      exact h
    | none =>
      have hj : ids.length ≤ j := List.getElem?_eq_none_iff.mp z
      rw [← hβ, List.getElem?_append_right (by rw [ll]; exact hj), ll] at h
      show (A ++ β)[m.length + (j - ids.length)]? = some a
      rw [List.getElem?_append_right (by rw [o.len]; omega), o.len, Nat.add_sub_cancel_left]
      exact h
  refine ⟨⟨n.sub, List.prefix_append _ _, fun a u z => ?_, fun a ha => ?_, fun a u z ha => n.keepT a u z fun q => ha (inA a q)⟩, ⟨o'.sub, ?_, ?_, fun a ha => ?_, fun i a u h1 h2 => ?_, o'.gho, fun q hq => ⟨fun z => (List.mem_append.mp z).elim (o.tab q hq).1 fun z => (o'.tab q hq).1 (by rw [← hβ]; exact List.mem_append_right _ z), (o'.tab q hq).2⟩⟩, key⟩
  · rcases n.fresh a u z with q | q | q
    · exact .inl q
    · exact .inr (.inl q)
    · exact .inr (.inr (inA a q))
  · rcases List.mem_append.mp ha with q | q
    · exact .inl q
    · exact .inr (newβ a q)
  · unfold putAll
    have lB := o'.len
    rw [← hβ, List.length_append, ll] at lB
    rw [List.length_append, List.length_append, putFrom_len, List.length_map, List.length_drop, o.len]
    omega
  · exact List.nodup_append.mpr ⟨o.nd, (List.nodup_append.mp ndB).2.1, fun a ha b hb q => notA b hb (q ▸ ha)⟩
  · rcases List.mem_append.mp ha with q | q
    · by_cases z : a ∈ lent A ids
      · exact o'.there a (by rw [← hβ]; exact List.mem_append_left _ z)
      · obtain ⟨u, z2⟩ := o.there a q
        exact n.stays a u z2 z
    · exact o'.there a (by rw [← hβ]; exact List.mem_append_right _ q)
  · unfold putAll at h2
    by_cases hi : i < A.length
    · rw [List.getElem?_append_left hi] at h1
      rw [List.getElem?_append_left (by rw [putFrom_len, ← o.len]; exact hi)] at h2
      have em : m[i]? = some (m[i]'(by rw [← o.len]; exact hi)) := List.getElem?_eq_getElem _
      rw [putFrom_get em, Nat.zero_add] at h2
      cases z : ixOf ids i with
      | some j =>
        rw [z] at h2
        have hij := ixOf_get z
        have hj : j < ids.length := (List.getElem?_eq_some_iff.mp hij).1
        have es : sub'[j]? = some (sub'[j]'(by omega)) := List.getElem?_eq_getElem _
        simp only [es] at h2
        cases h2
        have eB : B[j]? = some a := by rw [← hβ, List.getElem?_append_left (by rw [ll]; exact hj)]; exact lent_get hij h1
        exact backM_rp key (o'.obj j a _ eB es)
      | none =>
        rw [z] at h2
        cases h2
        have nl : a ∉ lent A ids := fun q => by
          obtain ⟨i2, q1, q2⟩ := lent_mem hin q
          obtain ⟨l1, e1⟩ := List.getElem?_eq_some_iff.mp h1
          obtain ⟨l2, e2⟩ := List.getElem?_eq_some_iff.mp q2
          have : i = i2 := (List.getElem_inj o.nd).mp (e1.trans e2.symm)
          exact ixOf_none z (this ▸ q1)
        refine (o.obj i a _ h1 em).nextT n.sub (List.prefix_append _ _) (fun u q no => n.keep a u q nl no) fun fa => ?_
        cases q : F' a with
        | none => rfl
        | some u =>
          obtain ⟨w, tw⟩ := o.there a (List.mem_of_getElem? h1)
          rcases n.fresh a u q with y | y | y
          · rw [fa] at y; cases y
          · rw [tw] at y; cases y
          · exact absurd y nl
    · have hi' : A.length ≤ i := Nat.le_of_not_lt hi
      rw [List.getElem?_append_right hi'] at h1
      rw [List.getElem?_append_right (by rw [putFrom_len, ← o.len]; exact hi'), putFrom_len, ← o.len, List.getElem?_map, List.getElem?_drop] at h2
      cases z : sub'[ids.length + (i - A.length)]? with
      | none => rw [z] at h2; cases h2
      | some w =>
        rw [z] at h2
        cases h2
        have eB : B[ids.length + (i - A.length)]? = some a := by
          rw [← hβ, List.getElem?_append_right (by rw [ll]; omega), ll, Nat.add_sub_cancel_left]
          exact h1
        have := backM_rp key (o'.obj _ a _ eB z)
        rw [o.len]
        exact this
/-! ### calls -/
def vCall (vf : VF) (fa : VA) : VE := fun s => bM (fa s) fun ss m => callM vf ss m
section
variable {K : PySem.W.Frag} {W : WX} {X : Cx}
theorem call_got {np : Nat} {vf : VF} {F : Hp} {A : List Addr} {ρ : List (Option Sl)} {m : List MO} {σ : L2.St} {H : Hp} {vs : List V} {ss : List Sl} {Q : VK} (hl : vs.length = np) (w : Wd K F A ρ m σ H) (rs : RpSs K F A vs ss) (g : Got K W σ ρ F A H (rS K) (callM vf ss m) Q) : SpV K np vf vs H Q (WE W σ) := by
  unfold callM at g
  simp only at g
  generalize grow m 100 (owns ss) [] = ids at g
  split at g
  · rename_i hn
    split at g
    · rename_i as sub e1 e2
      split at g
      · rename_i o sub' ev
        split at g
        · rename_i hk
          refine ⟨hl, F, lent A ids, as, sub, objs_lent w.os hn e2, renSs_rp e1 rs, o, sub', ev, ?_⟩
          obtain ⟨oo, mm, ee, g⟩ := g
          cases ee
          cases o with
          | ok r =>
            intro F' B v H' n o' rv
            obtain ⟨n2, o2, key⟩ := objs_back w.os hn e2 n o' hk
            exact g F' _ v H' n2 (w.of n2.sub n2.pre o2) (backS_rp key rv)
          | ex C fs =>
            intro F' B d ws H' n o' rf hd
            obtain ⟨n2, o2, key⟩ := objs_back w.os hn e2 n o' hk
            exact g F' _ d ws H' n2 (w.of n2.sub n2.pre o2) rf hd
        · exact none_got g
      · exact none_got g
    · exact none_got g
  · exact none_got g
theorem le_call {np : Nat} {vf : VF} {fa : VA} (hn : ∀ s ss m, fa s = some (.ok ss, m) → ss.length = np) {σ : L2.St} {H : Hp} {Q : VK} (h : LE K W (vCall vf fa) σ H Q) : tCallS (SpV K np vf) (WE W) (LA K W fa) σ H Q := by
  obtain ⟨F, A, ρ, m, w, g⟩ := h
  refine ⟨F, A, ρ, m, w, ?_⟩
  match e : fa ⟨ρ, m⟩, g with
  | none, g => unfold vCall at g; rw [e] at g; exact none_got g
  | some (.ex C fs, m1), g =>
    unfold vCall at g
    rw [e] at g
    obtain ⟨_, _, z, g⟩ := g
    cases z
    exact ⟨_, _, rfl, g⟩
  | some (.ok ss, m1), g =>
    unfold vCall at g
    rw [e] at g
    have hl := hn _ _ _ e
    exact ⟨_, _, rfl, fun F1 A1 vs H1 n1 w1 rs => call_got (by rw [RpSs.length rs]; exact hl) w1 rs (Got.later g n1)⟩
end
/-- as many arguments as a list of rules has -/
theorem vnil_len : ∀ s ss m, vNil s = some (.ok ss, m) → ss.length = 0 := fun s ss m e => by cases e; rfl
theorem vcons_len {f : VE} {g : VA} {n : Nat} (h : ∀ s ss m, g s = some (.ok ss, m) → ss.length = n) : ∀ s ss m, vCons f g s = some (.ok ss, m) → ss.length = n + 1 := fun s ss m e => by
  unfold vCons bM at e
  split at e
  · cases e
  · rename_i a m1 _
    simp only at e
    split at e
    · cases e
    · rename_i as m2 z
      cases e
      rw [List.length_cons, h _ _ _ z]
    · cases e
  · cases e
section
variable {W : WX} {X : Cx}
theorem pe_vcall {np k : Nat} {f : Addr} {fd : FuncData} {ps : List Str} {vf : VF} {fa : VA} {x : Str} {e : Expr} {es : List Expr} {p pos : Pos} (F : FnOk X.prog X.w X.K X.mg X.base (L2.CX X.prog X.w) k f fd ps (SpV X.K np vf)) (hr : Room k X.A) (hg : Gl X x) (hm : X.mg x = some (.ref f)) (hk : PySem.W.keepIn X.K (.ref f) = true) (hb : Binds X.K fd ps []) (tk : Takes X W)
    (ha : PA X (e :: es) (LA X.K W fa)) (hn : ∀ s ss m, fa s = some (.ok ss, m) → ss.length = np) (hdb : (x == ("__debug__" : Str)) = false := by decide) (he : starEach (e :: es) X.env = (false, eval e X.env) :: starEach es X.env := by rfl) (hpl : (backTo pos (starEach es X.env)).any (·.1) = false := by rfl) :
    PE X (.Call (.Name x p) (e :: es) [] pos) (LE X.K W (vCall vf fa)) := PE.imp (pe_callS F hr hg hm hk hb (fun σ => passAt tk σ) ha hdb he hpl) fun _ _ _ => le_call hn
end
end Vs
end
section
/-! Vs8: operators, subscripts, slices, built-ins. -/
namespace Vs
open PySem PySem.Spec PyProof.Rows L2
variable [WW]
section
variable {K : PySem.W.Frag} {W : WX} {X : Cx}
theorem OpR.or {f : Value → Value → Sem Value} {r r' : R2} (h : OpR X f r) (h' : OpR X f r') : OpR X f (fun x y H Q => r x y H Q ∨ r' x y H Q) := fun pins s σ H x y v u Q I rx ry q => q.elim (h pins s σ H x y v u Q I rx ry) (h' pins s σ H x y v u Q I rx ry)
theorem CallR.or' {f : Value} {r r' : List V → Hp → VK → Prop} (h : CallR X f r) (h' : CallR X f r') : CallR X f (fun xs H Q => r xs H Q ∨ r' xs H Q) := fun pins s σ H xs us Q I rx q => q.elim (h pins s σ H xs us Q I rx) (h' pins s σ H xs us Q I rx)
/-! ### what is read as a list, as a tuple -/
def lstOf (s : Sl) (m : List MO) : Option (List T) := match s with
  | .val (.lst ts) => some ts
  | .own i => match m[i]? with
    | some (.lst ts) => some ts
    | _ => none
  | _ => none
theorem lstOf_at {F : Hp} {A : List Addr} {m : List MO} {H : Hp} {s : Sl} {x : V} {ts : List T} (o : Objs K F A m H) (r : RpS K F A x s) (e : lstOf s m = some ts) : ∃ a xs, x = .ref a ∧ H a = some (.lst xs) ∧ RpL K F xs ts := by
  unfold lstOf at e
  split at e
  · cases e
    cases r with
    | lst h q => exact ⟨_, _, rfl, o.sub _ _ h, q⟩
  · split at e
    · rename_i i _ ts' em
      cases e
      obtain ⟨a, ea, rfl⟩ := r
      obtain ⟨_, xs, h1, h2⟩ := o.obj i a _ ea em
      exact ⟨a, xs, rfl, h1, h2⟩
    · cases e
  · cases e
/-- a list, a tuple or what only is read as a list -/
def seqOf (s : Sl) (m : List MO) : Option (List T) := match lstOf s m with
  | some ts => some ts
  | none => match s with
    | .val (.tup ts) => some ts
    | .val (.seq ts) => some ts
    | _ => none
theorem seqOf_at {F : Hp} {A : List Addr} {m : List MO} {H : Hp} {s : Sl} {x : V} {ts : List T} (o : Objs K F A m H) (r : RpS K F A x s) (e : seqOf s m = some ts) : ∃ a xs, x = .ref a ∧ (SqL K H a xs ∨ SqT K H a xs) ∧ RpL K F xs ts := by
  unfold seqOf at e
  split at e
  · rename_i us eu
    cases e
    obtain ⟨a, xs, h1, h2, h3⟩ := lstOf_at o r eu
    exact ⟨a, xs, h1, .inl (SqL.of h2), h3⟩
  · split at e
    · cases e
      cases r with
      | tup h q => exact ⟨_, _, rfl, .inr (sqT_same o.sub h), q⟩
    · cases e
      cases r with
      | seq h q => exact ⟨_, _, rfl, .inl (o.sub.seq h), q⟩
    · cases e
/-! ### operators with a new list -/
abbrev relN (K : PySem.W.Frag) (H0 : Hp) : Hp → List Addr → Hp → V → List T → Prop := fun F' A' H' v ts => rN K F' A' H' v ts ∧ ∀ p, v = .ref p → H0 p = none
/-! ### + -/
def gAdd : Sl → Sl → List MO → M Sl
  | .val (.int i), .val (.int j), m => rM (.val (.int (i + j))) m
  | .val (.str x), .val (.str y), m => if x.length + y.length ≤ SZ then rM (.val (.str (x ++ y))) m else none
  | .val (.tup ts), .val (.tup us), m => if ts.length + us.length ≤ SZ then rM (.val (.tup (ts ++ us))) m else none
  | _, _, _ => none
abbrev rAdd (K : PySem.W.Frag) : R2 := fun x y H Q => (rI0 (fun i j => .int (i + j)) x y H Q ∨ (∃ i j, x = .str i ∧ y = .str j ∧ i.length + j.length ≤ sizeLine ∧ Q (.str (i ++ j)) H)) ∨ rCatA K x y H Q
theorem op_vadd : OpR X (binaryOp .Add) (rAdd X.K) := OpR.or (OpR.or op_add op_add_str) op_catA
theorem ov_add : OpV K (rAdd K) gAdd := by
  intro W F A ρ m σ H x y a b Q w ra rb g
  unfold gAdd at g
  split at g
  · cases ra; cases rb
    exact .inl (.inl ⟨_, _, rfl, rfl, g.now w (.int _)⟩)
  · split at g
    · rename_i h
      cases ra; cases rb
      exact .inl (.inr ⟨_, _, rfl, rfl, sz_le h, g.now w (.str _)⟩)
    · exact none_got g
  · split at g
    · rename_i ts us h
      cases ra with
      | tup h1 r1 =>
        cases rb with
        | tup h2 r2 =>
          have l1 := r1.length
          have l2 := r2.length
          refine .inr ⟨_, _, _, _, rfl, rfl, sqT_same w.os.sub h1, sqT_same w.os.sub h2, by rw [l1, l2]; exact sz_le h, fun e => ?_, fun e1 e2 => ?_, fun _ _ p np => ?_⟩
          · subst e
            cases r1
            exact g.now w (.tup h2 r2)
          · subst e2
            cases r2
            rw [List.append_nil] at g
            exact g.now w (.tup h1 r1)
          · have sN : ∀ o : HO, Same F (upd F p o) := fun o => same_new (w.os.fnone np)
            exact g.fin (Nxt.new w.os np) (w.of (sN _) (List.prefix_refl _) (w.os.new np)) (.tup (SqT.of upd_same) ((r1.append r2).same (sN _)))
    · exact none_got g
  · exact none_got g
theorem pe_vadd {a b : Expr} {fa fb : VE} {pos : Pos} (ha : PE X a (LE X.K W fa)) (hb : PE X b (LE X.K W fb)) : PE X (.BinOp a .Add b pos) (LE X.K W (vBin gAdd fa fb)) := pe_vop op_vadd ov_add ha hb
/-! ### -, *, //, % -/
theorem pe_vsub {a b : Expr} {fa fb : VE} {pos : Pos} (ha : PE X a (LE X.K W fa)) (hb : PE X b (LE X.K W fb)) : PE X (.BinOp a .Sub b pos) (LE X.K W (vBin (gInt fun i j => .int (i - j)) fa fb)) := pe_vop op_sub (ov_int fun _ _ _ => .int _) ha hb
/-- ints, where c holds -/
def gIntC (c : Int → Int → Bool) (f : Int → Int → T) : Sl → Sl → List MO → M Sl
  | .val (.int i), .val (.int j), m => if c i j = true then rM (.val (f i j)) m else none
  | _, _, _ => none
theorem ov_intC {C : Int → Int → Prop} {c : Int → Int → Bool} {f : Int → Int → V} {f' : Int → Int → T} (hc : ∀ i j, c i j = true → C i j) (hf : ∀ F i j, Rp K F (f i j) (f' i j)) : OpV K (rI C f) (gIntC c f') := by
  intro W F A ρ m σ H x y a b Q w ra rb g
  unfold gIntC at g
  split at g
  · rename_i m' i j
    split at g
    · rename_i h
      cases ra
      cases rb
      exact ⟨i, j, rfl, rfl, hc i j h, g.now w (hf F i j)⟩
    · exact none_got g
  · exact none_got g
def cMul (i j : Int) : Bool := decide ((-(2 ^ 64) < i ∧ i < 2 ^ 64) ∨ (-(2 ^ 64) < j ∧ j < 2 ^ 64))
theorem cMul_ok (i j : Int) (h : cMul i j = true) : CMul i j := by
  unfold cMul at h
  have h2 := of_decide_eq_true h
  exact h2
theorem pe_vmul {a b : Expr} {fa fb : VE} {pos : Pos} (ha : PE X a (LE X.K W fa)) (hb : PE X b (LE X.K W fb)) : PE X (.BinOp a .Mult b pos) (LE X.K W (vBin (gIntC cMul fun i j => .int (i * j)) fa fb)) := pe_vop op_mul (ov_intC cMul_ok fun _ _ _ => .int _) ha hb
def cPos (_ j : Int) : Bool := decide (0 < j)
theorem pe_vmod {a b : Expr} {fa fb : VE} {pos : Pos} (ha : PE X a (LE X.K W fa)) (hb : PE X b (LE X.K W fb)) : PE X (.BinOp a .Mod b pos) (LE X.K W (vBin (gIntC cPos fun i j => .int (i % j)) fa fb)) := pe_vop op_mod (ov_intC (fun i j h => of_decide_eq_true (p := _) (by first | exact h)) fun _ _ _ => .int _) ha hb
def cDiv (_ j : Int) : Bool := decide (0 < j ∧ j < 1073741824)
theorem cDiv_ok (i j : Int) (h : cDiv i j = true) : CDiv i j := by
  unfold cDiv at h
  have h2 := of_decide_eq_true h
  exact h2
theorem pe_vdiv {a b : Expr} {fa fb : VE} {pos : Pos} (ha : PE X a (LE X.K W fa)) (hb : PE X b (LE X.K W fb)) : PE X (.BinOp a .FloorDiv b pos) (LE X.K W (vBin (gIntC cDiv fun i j => .int (i / j)) fa fb)) := pe_vop op_fdiv (ov_intC cDiv_ok fun _ _ _ => .int _) ha hb
/-! ### comparisons of ints -/
theorem pt_vlt {a b : Expr} {fa fb : VE} {pos : Pos} (ha : PE X a (LE X.K W fa)) (hb : PE X b (LE X.K W fb)) : PT X (.Compare a [.Lt] [b] pos) (LT X.K W (vTest (vBin (gInt fun i j => .bl (decide (i < j))) fa fb))) := pt_vcmp op_lt (ov_int fun _ _ _ => .bl _) ha hb (nobehind _ (by decide) (by decide))
theorem pt_vgt {a b : Expr} {fa fb : VE} {pos : Pos} (ha : PE X a (LE X.K W fa)) (hb : PE X b (LE X.K W fb)) : PT X (.Compare a [.Gt] [b] pos) (LT X.K W (vTest (vBin (gInt fun i j => .bl (decide (j < i))) fa fb))) := pt_vcmp op_gt (ov_int fun _ _ _ => .bl _) ha hb (nobehind _ (by decide) (by decide))
theorem pt_vge {a b : Expr} {fa fb : VE} {pos : Pos} (ha : PE X a (LE X.K W fa)) (hb : PE X b (LE X.K W fb)) : PT X (.Compare a [.GtE] [b] pos) (LT X.K W (vTest (vBin (gInt fun i j => .bl (decide (j ≤ i))) fa fb))) := pt_vcmp op_ge (ov_int fun _ _ _ => .bl _) ha hb (nobehind _ (by decide) (by decide))
/-! ### ==, != of data -/
mutual
def toD : T → Option PyData
  | .non => some .none
  | .bl b => some (.bool b)
  | .int i => some (.int i)
  | .str x => some (.str x)
  | .lst ts => (toDs ts).map .list
  | .tup ts => (toDs ts).map .tuple
  | .seq ts => (toDs ts).map .list
  | _ => none
def toDs : List T → Option (List PyData)
  | [] => some []
  | t :: r => match toD t, toDs r with
    | some d, some ds => some (d :: ds)
    | _, _ => none
end
mutual
theorem rp_dp {F : Hp} {H : Hp} (e : Same F H) : ∀ {v : V} {t : T} {d : PyData}, Rp K F v t → toD t = some d → Dp K H v d
  | _, _, d, .non, h => by unfold toD at h; cases h; exact .non
  | _, _, d, .bl b, h => by unfold toD at h; cases h; exact .bl b
  | _, _, d, .int i, h => by unfold toD at h; cases h; exact .int i
  | _, _, d, .str x, h => by unfold toD at h; cases h; exact .str x
  | _, .lst ts, d, .lst a r, h => by
    unfold toD at h
    cases z : toDs ts with
    | none => rw [z] at h; cases h
    | some ds => rw [z] at h; cases h; exact .lst (SqL.of (e _ _ a)) (rpL_dp e r z)
  | _, .tup ts, d, .tup a r, h => by
    unfold toD at h
    cases z : toDs ts with
    | none => rw [z] at h; cases h
    | some ds => rw [z] at h; cases h; exact .tup (sqT_same e a) (rpL_dp e r z)
  | _, .seq ts, d, .seq a r, h => by
    unfold toD at h
    cases z : toDs ts with
    | none => rw [z] at h; cases h
    | some ds => rw [z] at h; cases h; exact .lst (e.seq a) (rpL_dp e r z)
  | _, _, d, .ins a r, h => by unfold toD at h; cases h
  | _, _, d, .cst v, h => by unfold toD at h; cases h
theorem rpL_dp {F : Hp} {H : Hp} (e : Same F H) : ∀ {vs : List V} {ts : List T} {ds : List PyData}, RpL K F vs ts → toDs ts = some ds → DpAll K H vs ds
  | _, _, ds, .nil, h => by unfold toDs at h; cases h; exact .nil
  | _, t :: r, ds, .cons a q, h => by
    unfold toDs at h
    split at h
    · rename_i d ds' h1 h2
      cases h
      exact .cons (rp_dp e a h1) (rpL_dp e q h2)
    · cases h
end
/-- a value as data, also a list object's -/
def datOf (s : Sl) (m : List MO) : Option PyData := match s with
  | .val t => toD t
  | .own i => match m[i]? with
    | some (.lst ts) => (toDs ts).map .list
    | _ => none
theorem datOf_dp {F : Hp} {A : List Addr} {m : List MO} {H : Hp} {s : Sl} {x : V} {d : PyData} (o : Objs K F A m H) (r : RpS K F A x s) (e : datOf s m = some d) : Dp K H x d := by
  cases s with
  | val t => exact rp_dp o.sub r e
  | own i =>
    obtain ⟨a, ea, rfl⟩ := r
    unfold datOf at e
    simp only at e
    split at e
    · rename_i ts em
      obtain ⟨_, xs, h1, h2⟩ := o.obj i a _ ea em
      cases z : toDs ts with
      | none => rw [z] at e; cases e
      | some ds => rw [z] at e; cases e; exact .lst (SqL.of h1) (rpL_dp o.sub h2 z)
    · cases e
def gDat (f : PyData → PyData → Bool) (a b : Sl) (m : List MO) : M Sl := match datOf a m, datOf b m with
  | some d, some e => if SeqAt.shaped d = true ∧ SeqAt.shaped e = true then rM (.val (.bl (f d e))) m else none
  | _, _ => none
theorem ov_eqD : OpV K (rEqD K) (gDat PyData.eqv) := by
  intro W F A ρ m σ H x y a b Q w ra rb g
  unfold gDat at g
  split at g
  · rename_i d e h1 h2
    split at g
    · rename_i h
      exact ⟨d, e, datOf_dp w.os ra h1, datOf_dp w.os rb h2, h.1, h.2, g.now w (.bl _)⟩
    · exact none_got g
  · exact none_got g
theorem ov_neD : OpV K (rNeD K) (gDat fun d e => !PyData.eqv d e) := by
  intro W F A ρ m σ H x y a b Q w ra rb g
  unfold gDat at g
  split at g
  · rename_i d e h1 h2
    split at g
    · rename_i h
      exact ⟨d, e, datOf_dp w.os ra h1, datOf_dp w.os rb h2, h.1, h.2, g.now w (.bl _)⟩
    · exact none_got g
  · exact none_got g
theorem pt_veq {a b : Expr} {fa fb : VE} {pos : Pos} (hu : X.A.units + 64 < cLine) (ha : PE X a (LE X.K W fa)) (hb : PE X b (LE X.K W fb)) : PT X (.Compare a [.Eq] [b] pos) (LT X.K W (vTest (vBin (gDat PyData.eqv) fa fb))) := pt_vcmp (op_eqD hu) ov_eqD ha hb (nobehind _ (by decide) (by decide))
theorem pt_vne {a b : Expr} {fa fb : VE} {pos : Pos} (hu : X.A.units + 64 < cLine) (ha : PE X a (LE X.K W fa)) (hb : PE X b (LE X.K W fb)) : PT X (.Compare a [.NotEq] [b] pos) (LT X.K W (vTest (vBin (gDat fun d e => !PyData.eqv d e) fa fb))) := pt_vcmp (op_neD hu) ov_neD ha hb (nobehind _ (by decide) (by decide))
theorem pe_veq {a b : Expr} {fa fb : VE} {pos : Pos} (hu : X.A.units + 64 < cLine) (ha : PE X a (LE X.K W fa)) (hb : PE X b (LE X.K W fb)) : PE X (.Compare a [.Eq] [b] pos) (LE X.K W (vBin (gDat PyData.eqv) fa fb)) := pe_vcmp (op_eqD hu) ov_eqD ha hb (nobehind _ (by decide) (by decide))
theorem pe_vne {a b : Expr} {fa fb : VE} {pos : Pos} (hu : X.A.units + 64 < cLine) (ha : PE X a (LE X.K W fa)) (hb : PE X b (LE X.K W fb)) : PE X (.Compare a [.NotEq] [b] pos) (LE X.K W (vBin (gDat fun d e => !PyData.eqv d e) fa fb)) := pe_vcmp (op_neD hu) ov_neD ha hb (nobehind _ (by decide) (by decide))
/-! ### x in seq: data in a list; what is flat in a list or a tuple -/
def flatT : T → Option V
  | .non => some .non
  | .bl b => some (.bl b)
  | .int i => some (.int i)
  | .str x => some (.str x)
  | _ => none
def flatTs : List T → Option (List V)
  | [] => some []
  | t :: r => match flatT t, flatTs r with
    | some v, some vs => some (v :: vs)
    | _, _ => none
theorem flatT_rp {F : Hp} {v u : V} {t : T} (r : Rp K F v t) (e : flatT t = some u) : v = u ∧ flatV u = true := by
  cases r <;> first | (cases e; exact ⟨rfl, rfl⟩) | cases e
theorem flatTs_rp {F : Hp} : ∀ {vs us : List V} {ts : List T}, RpL K F vs ts → flatTs ts = some us → vs = us ∧ us.all flatV = true
  | _, us, _, .nil, e => by cases e; exact ⟨rfl, rfl⟩
  | _, us, t :: r, .cons a q, e => by
    unfold flatTs at e
    split at e
    · rename_i v vs h1 h2
      cases e
      obtain ⟨e1, f1⟩ := flatT_rp a h1
      obtain ⟨e2, f2⟩ := flatTs_rp q h2
      rw [e1, e2, List.all_cons, f1, f2]
      exact ⟨rfl, rfl⟩
    · cases e
def gInFlat (neg : Bool) (a b : Sl) (m : List MO) : M Sl := match a, seqOf b m with
  | .val t, some ts => match flatT t, flatTs ts with
    | some v, some vs => rM (.val (.bl (if neg then !inV v vs else inV v vs))) m
    | _, _ => none
  | _, _ => none
theorem ov_inFlat {neg : Bool} : OpV K (rIn K neg) (gInFlat neg) := by
  intro W F A ρ m σ H x y a b Q w ra rb g
  unfold gInFlat at g
  split at g
  · rename_i t ts eb
    split at g
    · rename_i v vs h1 h2
      obtain ⟨p, xs, rfl, h3, h4⟩ := seqOf_at w.os rb eb
      obtain ⟨rfl, f1⟩ := flatT_rp ra h1
      obtain ⟨rfl, f2⟩ := flatTs_rp h4 h2
      exact ⟨p, _, rfl, h3, f1, f2, g.now w (.bl _)⟩
    · exact none_got g
  · exact none_got g
end
end Vs
end
section
/-! Vs9: targets, comprehensions, subscripts, slices, built-ins, more methods of lists. -/
namespace Vs
open PySem PySem.Spec PyProof.Rows L2
variable [WW]
section
variable {K : PySem.W.Frag} {W : WX} {X : Cx}
/-! ### targets of several names -/
def vgAll : List VG → List T → List (Option Sl) → Option (List (Option Sl))
  | [], [], ρ => some ρ
  | g :: gs, t :: ts, ρ => match g t ρ with
    | some ρ' => vgAll gs ts ρ'
    | none => none
  | _, _, _ => none
def vgTup (gs : List VG) : VG := fun t ρ => match t with
  | .tup ts => vgAll gs ts ρ
  | _ => none
def LGs (K : PySem.W.Frag) (L : List Nat) (gs : List VG) : TGs := fun vs σ H Q => ∃ F A ρ m ts ρ', Wd K F A ρ m σ H ∧ RpL K F vs ts ∧ vgAll gs ts ρ = some ρ' ∧ ∀ σ', Wd K F A ρ' m σ' H → Sam L σ σ' → Q σ' H
theorem Sam.app {L M : List Nat} {σ σ1 σ2 : L2.St} (a : Sam L σ σ1) (b : Sam M σ1 σ2) : Sam (L ++ M) σ σ2 := ⟨b.1.trans a.1, fun j hj => (b.2 j fun z => hj (List.mem_append_right _ z)).trans (a.2 j fun z => hj (List.mem_append_left _ z))⟩
theorem vgAll_len : ∀ {gs : List VG} {ts : List T} {ρ ρ' : List (Option Sl)}, vgAll gs ts ρ = some ρ' → ts.length = gs.length
  | [], [], _, _, _ => rfl
  | g :: gs, t :: ts, ρ, ρ', e => by
    unfold vgAll at e
    split at e
    · rw [List.length_cons, List.length_cons, vgAll_len e]
    · cases e
  | [], t :: ts, _, _, e => by cases e
  | g :: gs, [], _, _, e => by cases e
theorem PGs.imp {es : List Expr} {t t' : TGs} (h : PGs X es t) (k : ∀ vs σ H Q, t' vs σ H Q → t vs σ H Q) : PGs X es t' := ⟨fun vs us pins s σ H Q I r z => h.run vs us pins s σ H Q I r (k _ _ _ _ z)⟩
theorem pgs_vnil : PGs X [] (LGs X.K [] []) := PGs.imp pgs_nil fun vs σ H Q ⟨F, A, ρ, m, ts, ρ', w, r, e, k⟩ => by
  cases r with
  | nil => cases e; exact ⟨rfl, k _ w Sam.refl⟩
  | cons a b => cases e
theorem pgs_vcons {e : Expr} {es : List Expr} {g : VG} {gs : List VG} {L M : List Nat} (h1 : PG X e (LG X.K L g)) (h2 : PGs X es (LGs X.K M gs)) (hc : (assignEach (e :: es) X.env).map (·.2) = assign e X.env :: (assignEach es X.env).map (·.2) := by rfl) : PGs X (e :: es) (LGs X.K (L ++ M) (g :: gs)) := PGs.imp (pgs_cons h1 h2 hc) fun vs σ H Q ⟨F, A, ρ, m, ts, ρ', w, r, e, k⟩ => by
  cases r with
  | nil => cases e
  | @cons v vs t ts a b =>
    unfold vgAll at e
    split at e
    · rename_i ρ1 e1
      exact ⟨v, vs, rfl, F, A, ρ, m, t, ρ1, w, a, e1, fun σ' w' s1 => ⟨F, A, ρ1, m, ts, ρ', w', b, e, fun σ2 w2 s2 => k σ2 w2 (s1.app s2)⟩⟩
    · cases e
theorem pg_vtup {es : List Expr} {k : Nat} {pos : Pos} {gs : List VG} {L : List Nat} (hc : X.calm = true) (h : PGs X es (LGs X.K L gs)) (hn : (assignEach es X.env).length = gs.length := by rfl) (hst : (assignEach es X.env).findIdx? (·.1) = none := by rfl) : PG X (.Tuple es k pos) (LG X.K L (vgTup gs)) := PG.imp (pg_tup hc h hn hst) fun v σ H Q ⟨F, A, ρ, m, t, ρ', w, r, e, k⟩ => by
  unfold vgTup at e
  split at e
  · rename_i ts
    cases r with
    | tup hq rl => exact ⟨_, _, rfl, sqT_same w.os.sub hq, by rw [rl.length]; exact vgAll_len e, F, A, ρ, m, ts, ρ', w, rl, e, k⟩
  · cases e
/-- a, b = e: a tuple taken apart -/
def vSetG (g : VG) (f : VE) : VS := fun s => bS s.ρ (f s) fun r m => match r with
  | .val t => match g t s.ρ with
    | some ρ' => some (.nx, ⟨ρ', m⟩)
    | none => none
  | _ => none
theorem ps_vsetG {tg e : Expr} {g : VG} {f : VE} {pos : Pos} (he : PE X e (LE X.K W f)) {L : List Nat} (hg : PG X tg (LG X.K L g)) (hs : swapsWithSole [tg] e pos.line X.env = pure false := by rfl) (hw : swappedStores [tg] e X.env = pure none := by rfl) (hx : (assignEach [tg] X.env).map (·.2) = [assign tg X.env] := by rfl) : PS X (.Assign [tg] e pos) (LS X.K W (vSetG g f)) := PS.imp (ps_asg he hg hs hw hx) fun D σ H ⟨F, A, ρ, m, w, r⟩ =>
  ⟨F, A, ρ, m, w, (Ran.bS (rS X.K) r).mono fun b H1 ⟨F1, A1, m1, a, n, w1, ra, q⟩ => by
    split at q
    · rename_i t
      split at q
      · rename_i ρ' e1
        exact ⟨F1, A1, ρ, m1, t, ρ', w1, ra, e1, fun σ' w' _ => q.nx w'⟩
      · obtain ⟨_, _, z, _⟩ := q; cases z
    · obtain ⟨_, _, z, _⟩ := q; cases z⟩
/-! ### comprehensions of one clause -/
def wipeS (ρ : List (Option Sl)) : List Nat → List (Option Sl)
  | [] => ρ
  | v :: vs => (wipeS ρ vs).set v none
theorem wd_wipe {F : Hp} {A : List Addr} {ρ : List (Option Sl)} {m : List MO} {σ : L2.St} {H : Hp} (w : Wd K F A ρ m σ H) : ∀ vs, Wd K F A (wipeS ρ vs) m (wipe σ vs) H
  | [] => w
  | v :: vs => by
    have ih := wd_wipe w vs
    unfold wipeS wipe
    refine ⟨ih.os, fun i r e => ?_, by rw [List.length_set, List.length_set]; exact ih.slen⟩
    by_cases z : v = i
    · subst z
      have hl : v < (wipeS ρ vs).length := by
        have := (List.getElem?_eq_some_iff.mp e).1
        rw [List.length_set] at this
        exact this
      rw [List.getElem?_set_self hl] at e
      cases e
    · rw [List.getElem?_set_ne z] at e
      obtain ⟨v', h1, h2⟩ := ih.slot i r e
      exact ⟨v', by rw [List.getElem?_set_ne z]; exact h1, h2⟩
def vColl (g : VG) (tt : VT) (te : VE) (ρ : List (Option Sl)) : List T → List MO → List T → M (List T)
  | [], m, acc => rM acc m
  | t :: r, m, acc => match g t ρ with
    | none => none
    | some ρ1 => match tt ⟨ρ1, m⟩ with
      | some (.ok true, m1) => match te ⟨ρ1, m1⟩ with
        | some (.ok (.val u), m2) => if acc.length < SZ then vColl g tt te ρ r m2 (acc ++ [u]) else none
        | _ => none
      | some (.ok false, m1) => vColl g tt te ρ r m1 acc
      | _ => none
def vComp (vs : List Nat) (it : VI) (g : VG) (tt : VT) (te : VE) : VN := fun s => bM (it s) fun ts m => vColl g tt te (wipeS s.ρ vs) ts m []
abbrev W0 : WX := fun _ _ _ _ => False
def vYes : VT := fun s => rM true s.m
theorem lt_yes {σ : L2.St} {H : Hp} {Q : Bool → Hp → Prop} (h : LT K W vYes σ H Q) : tYes σ H Q := by
  obtain ⟨F, A, ρ, m, w, g⟩ := h
  exact g.now w rfl
theorem PTs.imp {es : List Expr} {t t' : TT} (h : PTs X es t) (k : ∀ σ H Q, t' σ H Q → t σ H Q) : PTs X es t' := ⟨fun pins s σ H Q I z => h.run pins s σ H Q I (k _ _ _ z)⟩
theorem pts_vnil : PTs X [] (LT K W vYes) := PTs.imp pts_nil fun _ _ _ => lt_yes
theorem notbl {H : Hp} {D : Addr} {o : HO} (e : H D = some o) (h : ∀ ps, o ≠ .tbl ps := by (intro _ z; cases z)) : ∀ ps, H D ≠ some (.tbl ps) := fun ps z => by
  rw [e] at z
  exact h ps (Option.some.inj z)
theorem notbl0 {H : Hp} {D : Addr} (e : H D = none) : ∀ ps, H D ≠ some (.tbl ps) := fun ps z => by
  rw [e] at z
  cases z
/-- the list in the making is nobody's -/
theorem Objs.off {F : Hp} {A : List Addr} {m : List MO} {H : Hp} {D : Addr} {o : HO} (h : Objs K F A m H) (fD : F D = none) (nD : D ∉ A) (tD : ∀ ps, H D ≠ some (.tbl ps)) : Objs K F A m (upd H D o) where
  sub := fun b u e => by
    have ne : b ≠ D := fun z => by rw [z, fD] at e; cases e
    rw [upd_ne ne]; exact h.sub b u e
  len := h.len
  nd := h.nd
  there := fun a ha => by
    obtain ⟨u, e⟩ := h.there a ha
    have ne : a ≠ D := fun z => nD (z ▸ ha)
    exact ⟨u, by rw [upd_ne ne]; exact e⟩
  obj := fun i a u h1 h2 => by
    have ne : a ≠ D := fun z => nD (z ▸ List.mem_of_getElem? h1)
    exact (h.obj i a u h1 h2).next (Same.refl _) (List.prefix_refl _) (fun o e => by rw [upd_ne ne]; exact e) id
  gho := h.gho
  tab := fun q hq => ⟨(h.tab q hq).1, (h.tab q hq).2.next (Same.refl _) (h.tab q hq).2.1 (fun o e => by
    have ne : q.1 ≠ D := fun z => by
      obtain ⟨_, ps, e2, _⟩ := (h.tab q hq).2
      exact tD ps (by rw [← z]; exact e2)
    rw [upd_ne ne]; exact e)⟩
theorem wipe_in {σ : L2.St} {j : Nat} : ∀ {vs : List Nat}, j ∈ vs → (wipe σ vs)[j]? = if j < σ.length then some none else none
  | v :: vs, h => by
    unfold wipe
    by_cases z : v = j
    · subst z
      rw [List.getElem?_set, wipe_length]
      simp
    · rw [List.getElem?_set_ne z]
      rcases List.mem_cons.mp h with q | q
      · exact absurd q.symm z
      · exact wipe_in q
theorem wipe_sam {vs L : List Nat} {σ σ' : L2.St} (h : ∀ i ∈ L, i ∈ vs) (s : Sam L (wipe σ vs) σ') : wipe σ' vs = wipe σ vs := by
  have hl : σ'.length = σ.length := s.1.trans (wipe_length σ vs)
  refine List.ext_getElem? fun j => ?_
  by_cases q : j ∈ vs
  · rw [wipe_in q, wipe_in q, hl]
  · rw [wipe_out q, wipe_out q, s.2 j fun z => q (h j z), wipe_out q]
theorem Nxt.offD {F F5 : Hp} {A A5 : List Addr} {H H5 : Hp} {D : Addr} {o : HO} (n : Nxt F A H F5 A5 H5) (hD : H D = none) : Nxt F A H F5 A5 (upd H5 D o) :=
  ⟨n.sub, n.pre, n.fresh, n.news, fun a u e ha => (n.keepT a u e ha).imp (fun ⟨ps, z, qs, q⟩ => ⟨ps, z, qs, by rw [upd_ne (ne_of_none e hD)]; exact q⟩) fun q => by rw [upd_ne (ne_of_none e hD)]; exact q⟩
theorem le_comp {vs L : List Nat} (hL : ∀ i ∈ L, i ∈ vs) {it : VI} {g : VG} {tt : VT} {te : VE} {σ : L2.St} {H : Hp} {Q : VK} (h : LN K W (vComp vs it g tt te) σ H Q) :
    tLc (LI K W it) (LG K L g) (LT K W0 tt) (LE K W0 te) vs σ H Q := by
  obtain ⟨F, A, ρ, m, w, got⟩ := h
  refine ⟨F, A, ρ, m, w, ?_⟩
  unfold vComp at got
  match e : it ⟨ρ, m⟩, got with
  | none, got => exact none_got (show Got K W σ ρ F A H _ none Q from got)
  | some (.ex C fs, m1), got =>
    obtain ⟨_, _, z, got⟩ := got
    cases z
    exact ⟨_, _, rfl, got⟩
  | some (.ok ts, m1), got =>
  have got : Got K W σ ρ F A H (relN K H) (vColl g tt te (wipeS ρ vs) ts m1 []) Q := got
  refine ⟨_, _, rfl, fun F1 A1 J H1 n1 w1 wk D hD => ?_⟩
  have hD0 : H D = none := n1.back w1.os hD
  refine ⟨fun i k G => ∃ F' A' m' acc xs, Nxt F A H F' A' G ∧ Nxt F1 A1 H1 F' A' G ∧ F' D = none ∧ D ∉ A' ∧ Wd K F' A' ρ m' σ G ∧ G D = some (.lst xs) ∧ RpL K F' xs acc ∧ acc.length ≤ SZ ∧ i ≤ ts.length ∧ k = ts.length - i ∧
      Got K W σ ρ F A H (relN K H) (vColl g tt te (wipeS ρ vs) (ts.drop i) m' acc) Q, ⟨ts.length, F1, A1, m1, [], [], n1.offD hD0, Nxt.offD Nxt.refl hD, w1.os.fnone hD, w1.os.notin hD, w1.of (Same.refl _) (List.prefix_refl _) (w1.os.keep hD), upd_same, .nil, Nat.zero_le _, Nat.zero_le _, rfl, got⟩, ?_⟩
  rintro i k G ⟨F', A', m', acc, xs, n', n1', fD, nD, w', eD, racc, hacc, hi, rfl, q'⟩
  have wk' := wk F' A' G m' n1'.sub w'.os i
  by_cases e : i < ts.length
  · have et : ts[i]? = some ts[i] := List.getElem?_eq_getElem e
    have ed : ts.drop i = ts[i] :: ts.drop (i + 1) := List.drop_eq_getElem_cons e
    obtain ⟨go, yl⟩ := wk'.1 _ et
    refine .inr ⟨go, fun G2 => ∃ F2 A2 m2 acc2 xs2, Nxt F A H F2 A2 G2 ∧ Nxt F1 A1 H1 F2 A2 G2 ∧ F2 D = none ∧ D ∉ A2 ∧ Wd K F2 A2 ρ m2 σ G2 ∧ G2 D = some (.lst xs2) ∧ RpL K F2 xs2 acc2 ∧ acc2.length ≤ SZ ∧
      Got K W σ ρ F A H (relN K H) (vColl g tt te (wipeS ρ vs) (ts.drop (i + 1)) m2 acc2) Q, fun G2 ⟨F2, A2, m2, acc2, xs2, z⟩ => ⟨ts.length - (i + 1), by omega, F2, A2, m2, acc2, xs2, z.1, z.2.1, z.2.2.1, z.2.2.2.1, z.2.2.2.2.1, z.2.2.2.2.2.1, z.2.2.2.2.2.2.1, z.2.2.2.2.2.2.2.1, e, rfl, z.2.2.2.2.2.2.2.2⟩, fun x G3 y => ?_⟩
    obtain ⟨F3, n3, o3, rx⟩ := yl x G3 y
    rw [ed] at q'
    unfold vColl at q'
    have w3 : Wd K F3 A' ρ m' σ G3 := w'.of n3.sub (List.prefix_refl _) o3
    have off : ∀ {Fa Fb : Hp} {Aa Ab : List Addr} {Ha Hb : Hp}, Nxt Fa Aa Ha Fb Ab Hb → Fa D = none → D ∉ Aa → Ha D = some (.lst xs) → Fb D = none ∧ D ∉ Ab ∧ Hb D = some (.lst xs) := fun {Fa Fb Aa Ab Ha Hb} n f a h => by
      refine ⟨?_, fun z => ?_, n.keep D _ h a⟩
      · cases q : Fb D with
        | none => rfl
        | some u =>
          rcases n.fresh D u q with y | y | y
          · rw [f] at y; cases y
          · rw [h] at y; cases y
          · exact absurd y a
      · rcases n.news D z with y | y
        · exact a y
        · rw [h] at y; cases y
    obtain ⟨fD3, nD3, eD3⟩ := off n3 fD nD eD
    match eg : g ts[i] (wipeS ρ vs), q' with
    | none, q' => simp only [eg] at q'; exact none_got q'
    | some ρ1, q' =>
      simp only [eg] at q'
      refine ⟨F3, A', _, m', _, ρ1, wd_wipe w3 vs, rx, eg, fun σ' w4 sam => ⟨wipe_sam hL sam, F3, A', ρ1, m', w4, ?_⟩⟩
      match eb : tt ⟨ρ1, m'⟩, q' with
      | none, q' => simp only [eb] at q'; exact none_got q'
      | some (.ex C fs, m2), q' => simp only [eb] at q'; exact none_got q'
      | some (.ok false, m2), q' =>
        simp only [eb] at q'
        refine ⟨_, _, rfl, fun F4 A4 b H4 n4 w5 rb => ?_⟩
        cases rb
        obtain ⟨fD4, nD4, eD4⟩ := off n4 fD3 nD3 eD3
        rw [if_neg Bool.false_ne_true]
        have n34 := n3.trans n4
        exact ⟨F4, A4, m2, acc, xs, n'.trans n34, n1'.trans n34, fD4, nD4, w'.of n34.sub n34.pre w5.os, eD4, racc.same n34.sub, hacc, q'⟩
      | some (.ok true, m2), q' =>
        simp only [eb] at q'
        refine ⟨_, _, rfl, fun F4 A4 b H4 n4 w5 rb => ?_⟩
        cases rb
        obtain ⟨fD4, nD4, eD4⟩ := off n4 fD3 nD3 eD3
        rw [if_pos rfl]
        refine ⟨F4, A4, ρ1, m2, w5, ?_⟩
        match ee : te ⟨ρ1, m2⟩, q' with
        | none, q' => simp only [ee] at q'; exact none_got q'
        | some (.ex C fs, m3), q' => simp only [ee] at q'; exact none_got q'
        | some (.ok (.own j), m3), q' => simp only [ee] at q'; exact none_got q'
        | some (.ok (.val u), m3), q' =>
          simp only [ee] at q'
          split at q'
          · rename_i hz
            refine ⟨_, _, rfl, fun F5 A5 y5 H5 n5 w6 ry => ?_⟩
            obtain ⟨fD5, nD5, eD5⟩ := off n5 fD4 nD4 eD4
            have n35 := (n3.trans n4).trans n5
            refine ⟨xs, eD5, by rw [racc.length]; exact sz_lt hz, F5, A5, m3, acc ++ [u], xs ++ [y5], (n'.trans n35).offD hD0, (n1'.trans n35).offD hD, fD5, nD5, w'.of n35.sub n35.pre (w6.os.off fD5 nD5 (notbl eD5)), upd_same, (racc.same n35.sub).append (.cons ry .nil), by rw [List.length_append]; exact hz, q'⟩
          · exact none_got q'
  · have ei : i = ts.length := by omega
    refine .inl ⟨wk'.2 (by omega), ?_⟩
    rw [List.drop_eq_nil_of_le (by omega)] at q'
    exact q'.fin n' w' ⟨⟨D, xs, rfl, fD, nD, eD, racc, hacc⟩, fun p ep => by cases ep; exact hD0⟩
theorem pe_vcomp {elt tg iter : Expr} {ifs : List Expr} {scope : Scope} (own : List (Str × Nat)) {pos : Pos} {it : VI} {L : List Nat} {g : VG} {tt : VT} {te : VE} (hL : ∀ i ∈ L, i ∈ own.map (·.2)) (hc : X.calm = true) (hN : X.N.Nodup) (hi : PI X tg iter (LI X.K W it)) (ok : BlkOk X.N X.env.scope scope own)
    (hg : ∀ (s : Shared) (H : Hp) (C : Addr) (cl : List (Str × Addr)) (fp : List Addr), PG (X.blk s H scope (compEnvC scope cl C X.env) fp) tg (LG X.K L g)) (ht : ∀ (s : Shared) (H : Hp) (C : Addr) (cl : List (Str × Addr)) (fp : List Addr), PTs (X.blk s H scope (compEnvC scope cl C X.env) fp) ifs (LT X.K W0 tt))
    (he : ∀ (s : Shared) (H : Hp) (C : Addr) (cl : List (Str × Addr)) (fp : List Addr), PE (X.blk s H scope (compEnvC scope cl C X.env) fp) elt (LE X.K W0 te)) (hs : ∀ x, foldedSetIterable iter X.env x = pure x := by intro _; rfl) :
    PE X (.ListComp elt [⟨tg, iter, ifs, 0⟩] scope pos) (LN X.K W (vComp (own.map (·.2)) it g tt te)) := PE.imp (pe_lc hc hN hi ok hg ht he hs) fun _ _ _ => le_comp hL
end
end Vs
end
section
/-! Vs10: in, is None, subscripts, slices, built-in functions. -/
namespace Vs
open PySem PySem.Spec PyProof.Rows L2
variable [WW]
section
variable {K : PySem.W.Frag} {W : WX} {X : Cx}
/-! ### in, not in -/
theorem pt_vinF {a b : Expr} {fa fb : VE} {pos : Pos} (hm : behindInMarks .In b = false) (ha : PE X a (LE X.K W fa)) (hb : PE X b (LE X.K W fb)) : PT X (.Compare a [.In] [b] pos) (LT X.K W (vTest (vBin (gInFlat false) fa fb))) := pt_vcmp op_in_seq ov_inFlat ha hb hm
theorem pe_vinF {a b : Expr} {fa fb : VE} {pos : Pos} (hm : behindInMarks .In b = false) (ha : PE X a (LE X.K W fa)) (hb : PE X b (LE X.K W fb)) : PE X (.Compare a [.In] [b] pos) (LE X.K W (vBin (gInFlat false) fa fb)) := pe_vcmp op_in_seq ov_inFlat ha hb hm
/-! ### is None -/
def gIsN (neg : Bool) (s : Sl) (m : List MO) : M Sl := match s with
  | .val .non => rM (.val (.bl (!neg))) m
  | .val (.cst _) => none
  | _ => rM (.val (.bl neg)) m
theorem isN_of {F : Hp} {A : List Addr} {x : V} {s : Sl} {neg : Bool} {m : List MO} {r : Sl} (rx : RpS K F A x s) (e : gIsN neg s m = rM r m) : r = .val (.bl (if neg then !decide (x = .non) else decide (x = .non))) := by
  unfold gIsN at e
  split at e
  · cases e
    cases rx
    cases neg <;> rfl
  · cases e
  · rename_i h1 h2
    cases e
    have ne : x ≠ .non := by
      cases s with
      | val t =>
        cases rx with
        | non => exact absurd rfl h1
        | cst => exact absurd rfl (h2 _)
        | _ => exact fun z => by cases z
      | own i => obtain ⟨a, _, rfl⟩ := rx; exact fun z => by cases z
    rw [decide_eq_false ne]
    cases neg <;> rfl
def vIsN (neg : Bool) (f : VE) : VE := fun s => bM (f s) (gIsN neg)
theorem gIsN_some (neg : Bool) (s : Sl) (m : List MO) : gIsN neg s m = none ∨ ∃ r, gIsN neg s m = rM r m := by
  unfold gIsN
  split
  · exact .inr ⟨_, rfl⟩
  · exact .inl rfl
  · exact .inr ⟨_, rfl⟩
theorem le_isN {neg : Bool} {f : VE} {σ : L2.St} {H : Hp} {Q : VK} (h : LE K W (vIsN neg f) σ H Q) : LE K W f σ H fun x H1 => Q (.bl (if neg then !decide (x = .non) else decide (x = .non))) H1 := by
  obtain ⟨F, A, ρ, m, w, got⟩ := h
  refine ⟨F, A, ρ, m, w, (Got.bind (R1 := rS K) got).mono fun x H1 ⟨F1, A1, m1, a, n1, w1, ra, q⟩ => ?_⟩
  rcases gIsN_some neg a m1 with e | ⟨r, e⟩
  · rw [e] at q; exact none_got q
  · rw [e] at q
    have e2 := isN_of ra e
    rw [e2] at q
    exact q.now w1 (.bl _)
theorem pe_visN {a : Expr} {f : VE} {pos pos' : Pos} {j : Nat} (ha : PE X a (LE K W f)) : PE X (.Compare a [.Is] [.Constant .none j pos'] pos) (LE K W (vIsN false f)) := PE.imp (pe_cmp (pc_isN ha)) fun _ _ _ h => le_isN h
theorem pt_visN {a : Expr} {f : VE} {pos pos' : Pos} {j : Nat} (ha : PE X a (LE K W f)) : PT X (.Compare a [.Is] [.Constant .none j pos'] pos) (LT K W (vTest (vIsN false f))) := PT.imp (pt_cmp (pc_isN ha)) fun σ H Q h => le_isN (lt_test h)
theorem pt_vnotN {a : Expr} {f : VE} {pos pos' : Pos} {j : Nat} (ha : PE X a (LE K W f)) : PT X (.Compare a [.IsNot] [.Constant .none j pos'] pos) (LT K W (vTest (vIsN true f))) := PT.imp (pt_cmp (pc_notN ha)) fun σ H Q h => le_isN (lt_test h)
/-! ### subscripts -/
theorem atI_rp {F : Hp} {xs : List V} {ts : List T} {i : Int} {t : T} (r : RpL K F xs ts) (e : atI ts i = some t) : ∃ v, atI xs i = some v ∧ Rp K F v t := by
  unfold atI at e ⊢
  rw [r.length]
  cases z : ixN ts.length i with
  | none => rw [z] at e; cases e
  | some j =>
    rw [z] at e
    obtain ⟨v, h1, h2⟩ := RpL.get r (t := t) e
    exact ⟨v, h1, h2⟩
def gIx (a b : Sl) (m : List MO) : M Sl := match b with
  | .val (.int i) => match seqOf a m with
    | some ts => match atI ts i with
      | some t => rM (.val t) m
      | none => none
    | none => match a with
      | .val (.str z) => if z.length ≤ SZ then match atI z.cps.toList i with
        | some c => rM (.val (.str ⟨#[c]⟩)) m
        | none => none
        else none
      | _ => none
  | _ => none
theorem ov_ix : OpV K (rIx K) gIx := by
  intro W F A ρ m σ H x y a b Q w ra rb g
  unfold gIx at g
  split at g
  · rename_i i
    cases rb
    split at g
    · rename_i ts e
      split at g
      · rename_i t et
        obtain ⟨p, xs, rfl, h1, h2⟩ := seqOf_at w.os ra e
        obtain ⟨v, h3, h4⟩ := atI_rp h2 et
        rcases h1 with h1 | h1
        · exact .inl ⟨p, xs, i, v, rfl, rfl, h1, h3, g.now w h4⟩
        · exact .inr (.inl ⟨p, xs, i, v, rfl, rfl, h1, h3, g.now w h4⟩)
      · exact none_got g
    · split at g
      · split at g
        · rename_i hz
          split at g
          · rename_i c ec
            cases ra
            exact .inr (.inr ⟨_, i, c, rfl, rfl, sz_le hz, ec, g.now w (.str _)⟩)
          · exact none_got g
        · exact none_got g
      · exact none_got g
  · exact none_got g
theorem pe_vix {a b : Expr} {fa fb : VE} {pos : Pos} (hs : PlainIx b) (ha : PE X a (LE X.K W fa)) (hb : PE X b (LE X.K W fb)) : PE X (.Subscript a b pos) (LE X.K W (vBin gIx fa fb)) := PE.imp (pe_ix ix_seq ha hb hs) fun _ _ _ => le_bin ov_ix
/-! ### slices -/
abbrev VP := S → M (Option Int)
def LP (K : PySem.W.Frag) (W : WX) (f : VP) : TO := fun σ H Q => ∃ F A ρ m, Wd K F A ρ m σ H ∧ Got K W σ ρ F A H (fun _ _ _ b c => b = c) (f ⟨ρ, m⟩) Q
def vNoPart : VP := fun s => rM none s.m
def gPart (s : Sl) (m : List MO) : M (Option Int) := match s with
  | .val (.int i) => rM (some i) m
  | _ => none
def vPart (f : VE) : VP := fun s => bM (f s) gPart
theorem po_vnone : PO X none (LP K W vNoPart) := ⟨fun pins s σ H Q I ⟨F, A, ρ, m, w, g⟩ => po_none.run pins s σ H Q I (Got.now (R2 := fun _ _ _ b c => b = c) g w rfl)⟩
theorem po_vsome {e : Expr} {f : VE} (h : PE X e (LE K W f)) : PO X (some e) (LP K W (vPart f)) := ⟨fun pins s σ H Q I ⟨F, A, ρ, m, w, g⟩ => (po_some h).run pins s σ H Q I ⟨F, A, ρ, m, w, (Got.bind (R1 := rS K) g).mono fun x H1 ⟨F1, A1, m1, a, n1, w1, ra, q⟩ => by
  unfold gPart at q
  split at q
  · cases ra
    exact ⟨_, rfl, Got.now q w1 rfl⟩
  · exact none_got q⟩⟩
def cutT (xs : List T) (lo hi : Option Int) : List T := (xs.drop (HT.sIx xs.length 0 lo)).take (HT.sIx xs.length xs.length hi - HT.sIx xs.length 0 lo)
theorem cutT_le (xs : List T) (lo hi : Option Int) : (cutT xs lo hi).length ≤ xs.length := by
  unfold cutT
  rw [List.length_take, List.length_drop]
  omega
theorem cut_rp {F : Hp} {xs : List V} {ts : List T} (r : RpL K F xs ts) (lo hi : Option Int) : RpL K F (cutV xs lo hi) (cutT ts lo hi) := by
  unfold cutV cutT
  rw [r.length]
  exact (r.drop _).take _
/-- of a list: a new list -/
def vSliceL (fe : VE) (fl fh : VP) : VN := fun s => bM (fe s) fun a m1 => bM (fl ⟨s.ρ, m1⟩) fun lo m2 => bM (fh ⟨s.ρ, m2⟩) fun hi m3 => match lstOf a m3 with
  | some ts => if ts.length ≤ SZ then rM (cutT ts lo hi) m3 else none
  | none => match a with
    | .val (.seq ts) => if ts.length ≤ SZ then rM (cutT ts lo hi) m3 else none
    | _ => none
theorem pe_vsliceL {e : Expr} {lo hi : Option Expr} {fe : VE} {fl fh : VP} {pos p2 : Pos} (he : PE X e (LE X.K W fe)) (hl : PO X lo (LP X.K W fl)) (hu : PO X hi (LP X.K W fh)) : PE X (.Subscript e (.Slice lo hi none p2) pos) (LN X.K W (vSliceL fe fl fh)) := PE.imp (pe_slice sl_list he hl hu) fun σ H Q ⟨F, A, ρ, m, w, g⟩ =>
  ⟨F, A, ρ, m, w, (Got.bind (R1 := rS X.K) g).mono fun x H1 ⟨F1, A1, m1, a, n1, w1, ra, g1⟩ => ⟨F1, A1, ρ, m1, w1, (Got.bind (R1 := fun _ _ _ b c => b = c) g1).mono fun l H2 ⟨F2, A2, m2, l', n2, w2, el, g2⟩ => by
    subst el
    exact ⟨F2, A2, ρ, m2, w2, (Got.bind (R1 := fun _ _ _ b c => b = c) g2).mono fun u H3 ⟨F3, A3, m3, u', n3, w3, eu, g3⟩ => by
      subst eu
      have ra3 := (ra.next n2.sub n2.pre).next n3.sub n3.pre
      have n := (n1.trans n2).trans n3
      split at g3
      · rename_i ts et
        split at g3
        · rename_i hz
          obtain ⟨p, xs, rfl, h1, h2⟩ := lstOf_at w3.os ra3 et
          exact ⟨p, xs, rfl, SqL.of h1, fun q nq => new_list n g3 w3 nq (cut_rp h2 l u) (Nat.le_trans (cutT_le _ _ _) hz)⟩
        · exact none_got g3
      · split at g3
        · split at g3
          · rename_i hz
            cases ra3 with
            | seq h1 h2 => exact ⟨_, _, rfl, w3.os.sub.seq h1, fun q nq => new_list n g3 w3 nq (cut_rp h2 l u) (Nat.le_trans (cutT_le _ _ _) hz)⟩
          · exact none_got g3
        · exact none_got g3⟩⟩⟩
/-- of a tuple, of a str -/
def vSliceV (fe : VE) (fl fh : VP) : VE := fun s => bM (fe s) fun a m1 => bM (fl ⟨s.ρ, m1⟩) fun lo m2 => bM (fh ⟨s.ρ, m2⟩) fun hi m3 => match a with
  | .val (.tup ts) => rM (.val (.tup (cutT ts lo hi))) m3
  | .val (.str z) => if z.length ≤ SZ then rM (.val (.str (cutS z lo hi))) m3 else none
  | _ => none
theorem cut_whole {ts : List T} {lo hi : Option Int} (h : HT.sIx ts.length 0 lo = 0 ∧ HT.sIx ts.length ts.length hi = ts.length) : cutT ts lo hi = ts := by
  unfold cutT
  rw [h.1, h.2, List.drop_zero, Nat.sub_zero, List.take_length]
theorem pe_vsliceV {e : Expr} {lo hi : Option Expr} {fe : VE} {fl fh : VP} {pos p2 : Pos} (he : PE X e (LE X.K W fe)) (hl : PO X lo (LP X.K W fl)) (hu : PO X hi (LP X.K W fh)) : PE X (.Subscript e (.Slice lo hi none p2) pos) (LE X.K W (vSliceV fe fl fh)) := PE.imp (pe_slice (SlR.or sl_tupA sl_str) he hl hu) fun σ H Q ⟨F, A, ρ, m, w, g⟩ =>
  ⟨F, A, ρ, m, w, (Got.bind (R1 := rS X.K) g).mono fun x H1 ⟨F1, A1, m1, a, n1, w1, ra, g1⟩ => ⟨F1, A1, ρ, m1, w1, (Got.bind (R1 := fun _ _ _ b c => b = c) g1).mono fun l H2 ⟨F2, A2, m2, l', n2, w2, el, g2⟩ => by
    subst el
    exact ⟨F2, A2, ρ, m2, w2, (Got.bind (R1 := fun _ _ _ b c => b = c) g2).mono fun u H3 ⟨F3, A3, m3, u', n3, w3, eu, g3⟩ => by
      subst eu
      have ra3 := (ra.next n2.sub n2.pre).next n3.sub n3.pre
      split at g3
      · rename_i ts
        cases ra3 with
        | tup h1 h2 =>
          refine .inl ⟨_, _, rfl, sqT_same w3.os.sub h1, fun e => ?_, fun _ p np => ?_⟩
          · rw [h2.length] at e
            rw [cut_whole e] at g3
            exact g3.now w3 (.tup h1 h2)
          · have sN : ∀ o : HO, Same F3 (upd F3 p o) := fun o => same_new (w3.os.fnone np)
            exact g3.fin (Nxt.new w3.os np) (w3.of (sN _) (List.prefix_refl _) (w3.os.new np)) (.tup (SqT.of upd_same) ((cut_rp h2 l u).same (sN _)))
      · split at g3
        · rename_i hz
          cases ra3
          exact .inr ⟨_, rfl, sz_le hz, g3.now w3 (.str _)⟩
        · exact none_got g3
      · exact none_got g3⟩⟩⟩
end
end Vs
end
section
/-! Vs11: built-in functions. -/
namespace Vs
open PySem PySem.Spec PyProof.Rows L2
variable [WW]
section
variable {K : PySem.W.Frag} {W : WX} {X : Cx}
/-- a call of values by a function: a value; a new list -/
def CallV (K : PySem.W.Frag) (r : List V → Hp → VK → Prop) (g : List Sl → List MO → M Sl) : Prop :=
  ∀ (W : WX) (F : Hp) (A : List Addr) (ρ : List (Option Sl)) (m : List MO) (σ : L2.St) (H : Hp) (xs : List V) (ss : List Sl) (Q : VK), Wd K F A ρ m σ H → RpSs K F A xs ss → Got K W σ ρ F A H (rS K) (g ss m) Q → r xs H Q
def CallVN (K : PySem.W.Frag) (r : List V → Hp → VK → Prop) (g : List Sl → List MO → M (List T)) : Prop :=
  ∀ (W : WX) (F0 F : Hp) (A0 A : List Addr) (ρ : List (Option Sl)) (m : List MO) (σ : L2.St) (H0 H : Hp) (xs : List V) (ss : List Sl) (Q : VK), Nxt F0 A0 H0 F A H → Wd K F A ρ m σ H → RpSs K F A xs ss → Got K W σ ρ F A H (relN K H0) (g ss m) Q → r xs H Q
def vB (g : List Sl → List MO → M Sl) (f : VA) : VE := fun s => bM (f s) g
def vBN (g : List Sl → List MO → M (List T)) (f : VA) : VN := fun s => bM (f s) g
theorem le_callB {r : List V → Hp → VK → Prop} {g : List Sl → List MO → M Sl} {f : VA} (hv : CallV K r g) {σ : L2.St} {H : Hp} {Q : VK} (h : LE K W (vB g f) σ H Q) : tCB r (LA K W f) σ H Q := by
  obtain ⟨F, A, ρ, m, w, got⟩ := h
  exact ⟨F, A, ρ, m, w, (Got.bind (R1 := fun F' A' _ vs ss => RpSs K F' A' vs ss) got).mono fun xs H1 ⟨F1, A1, m1, ss, n1, w1, rs, q⟩ => hv W F1 A1 ρ m1 σ H1 xs ss Q w1 rs q⟩
theorem ln_callB {r : List V → Hp → VK → Prop} {g : List Sl → List MO → M (List T)} {f : VA} (hv : CallVN K r g) {σ : L2.St} {H : Hp} {Q : VK} (h : LN K W (vBN g f) σ H Q) : tCB r (LA K W f) σ H Q := by
  obtain ⟨F, A, ρ, m, w, got⟩ := h
  exact ⟨F, A, ρ, m, w, (Got.bind (R1 := fun F' A' _ vs ss => RpSs K F' A' vs ss) got).mono fun xs H1 ⟨F1, A1, m1, ss, n1, w1, rs, q⟩ => hv W F F1 A A1 ρ m1 σ H H1 xs ss Q n1 w1 rs q⟩
section
variable {x : Str} {p pos : Pos} {e : Expr} {es : List Expr} {f : VA} {id T' : String} {r : List V → Hp → VK → Prop}
theorem pe_vcallB {g : List Sl → List MO → M Sl} (hv : CallV X.K r g) (hc : CallR X (.builtin id) r) (hg : Gl X x) (hm : X.mg x = none) (hb : bootBuiltins x = some (.builtin id)) (ha : PA X (e :: es) (LA X.K W f)) (hn : x ≠ "__name__" := by decide) (hdb : (x == ("__debug__" : Str)) = false := by decide)
    (he : starEach (e :: es) X.env = (false, eval e X.env) :: starEach es X.env := by rfl) (hpl : (backTo pos (starEach es X.env)).any (·.1) = false := by rfl) : PE X (.Call (.Name x p) (e :: es) [] pos) (LE X.K W (vB g f)) :=
  PE.imp (pe_callB hc hg hm hb ha hn hdb he hpl) fun _ _ _ => le_callB hv
theorem pe_vcallTy {g : List Sl → List MO → M Sl} (hv : CallV X.K r g) (hc : CallR X (.type T') r) (hg : Gl X x) (hm : X.mg x = none) (hb : bootBuiltins x = some (.type T')) (ha : PA X (e :: es) (LA X.K W f)) (hn : x ≠ "__name__" := by decide) (hdb : (x == ("__debug__" : Str)) = false := by decide)
    (he : starEach (e :: es) X.env = (false, eval e X.env) :: starEach es X.env := by rfl) (hpl : (backTo pos (starEach es X.env)).any (·.1) = false := by rfl) : PE X (.Call (.Name x p) (e :: es) [] pos) (LE X.K W (vB g f)) :=
  PE.imp (pe_callTy hc hg hm hb ha hn hdb he hpl) fun _ _ _ => le_callB hv
theorem pe_vcallTyN {g : List Sl → List MO → M (List T)} (hv : CallVN X.K r g) (hc : CallR X (.type T') r) (hg : Gl X x) (hm : X.mg x = none) (hb : bootBuiltins x = some (.type T')) (ha : PA X (e :: es) (LA X.K W f)) (hn : x ≠ "__name__" := by decide) (hdb : (x == ("__debug__" : Str)) = false := by decide)
    (he : starEach (e :: es) X.env = (false, eval e X.env) :: starEach es X.env := by rfl) (hpl : (backTo pos (starEach es X.env)).any (·.1) = false := by rfl) : PE X (.Call (.Name x p) (e :: es) [] pos) (LN X.K W (vBN g f)) :=
  PE.imp (pe_callTy hc hg hm hb ha hn hdb he hpl) fun _ _ _ => ln_callB hv
end
/-! ### len, list, tuple -/
theorem rpSs1 {F : Hp} {A : List Addr} {xs : List V} {s : Sl} (r : RpSs K F A xs [s]) : ∃ x, xs = [x] ∧ RpS K F A x s := by
  cases r with
  | cons r1 r2 => cases r2; exact ⟨_, rfl, r1⟩
theorem rpSs2 {F : Hp} {A : List Addr} {xs : List V} {s s' : Sl} (r : RpSs K F A xs [s, s']) : ∃ x y, xs = [x, y] ∧ RpS K F A x s ∧ RpS K F A y s' := by
  cases r with
  | cons r1 r2 => obtain ⟨y, rfl, r3⟩ := rpSs1 r2; exact ⟨_, y, rfl, r1, r3⟩
abbrev rLen1 (K : PySem.W.Frag) : List V → Hp → VK → Prop := fun xs H Q => (∃ p ys, xs = [.ref p] ∧ (SqL K H p ys ∨ SqT K H p ys) ∧ Q (.int ys.length) H) ∨ ∃ z, xs = [.str z] ∧ z.length ≤ sizeLine ∧ Q (.int z.length) H
theorem call_len1 : CallR X (.builtin "len") (rLen1 X.K) := CallR.or call_len_seq call_len_str
def gLen : List Sl → List MO → M Sl
  | [s], m => match seqOf s m with
    | some ts => rM (.val (.int ts.length)) m
    | none => match s with
      | .val (.str z) => if z.length ≤ SZ then rM (.val (.int z.length)) m else none
      | _ => none
  | _, _ => none
theorem cv_len : CallV K (rLen1 K) gLen := by
  intro W F A ρ m σ H xs ss Q w rs g
  unfold gLen at g
  split at g
  · rename_i s
    obtain ⟨x, rfl, rx⟩ := rpSs1 rs
    split at g
    · rename_i ts e
      obtain ⟨p, ys, rfl, h1, h2⟩ := seqOf_at w.os rx e
      rw [← h2.length] at g
      exact .inl ⟨p, ys, rfl, h1, g.now w (.int _)⟩
    · split at g
      · split at g
        · rename_i hz
          cases rx
          exact .inr ⟨_, rfl, sz_le hz, g.now w (.int _)⟩
        · exact none_got g
      · exact none_got g
  · exact none_got g
abbrev rListOf (K : PySem.W.Frag) : List V → Hp → VK → Prop := fun xs H Q => ∃ p ys, xs = [.ref p] ∧ (SqL K H p ys ∨ SqT K H p ys) ∧ ∀ l, H l = none → Q (.ref l) (upd H l (.lst ys))
def gListOf : List Sl → List MO → M (List T)
  | [s], m => match seqOf s m with
    | some ts => if ts.length ≤ SZ then rM ts m else none
    | none => none
  | _, _ => none
theorem cv_list : CallVN K (rListOf K) gListOf := by
  intro W F0 F A0 A ρ m σ H0 H xs ss Q n w rs g
  unfold gListOf at g
  split at g
  · rename_i s
    obtain ⟨x, rfl, rx⟩ := rpSs1 rs
    split at g
    · rename_i ts e
      split at g
      · rename_i hz
        obtain ⟨p, ys, rfl, h1, h2⟩ := seqOf_at w.os rx e
        exact ⟨p, ys, rfl, h1, fun l nl => new_list n g w nl h2 hz⟩
      · exact none_got g
    · exact none_got g
  · exact none_got g
abbrev rTupOf (K : PySem.W.Frag) : List V → Hp → VK → Prop := fun xs H Q => ∃ p ys, xs = [.ref p] ∧ ((SqL K H p ys ∧ ∀ l, H l = none → Q (.ref l) (upd H l (.tup ys))) ∨ (SqT K H p ys ∧ Q (.ref p) H))
def gTupOf : List Sl → List MO → M Sl
  | [s], m => match seqOf s m with
    | some ts => if ts.length ≤ SZ then rM (.val (.tup ts)) m else none
    | none => none
  | _, _ => none
theorem seqOf_at2 {F : Hp} {A : List Addr} {m : List MO} {H : Hp} {s : Sl} {x : V} {ts : List T} (o : Objs K F A m H) (r : RpS K F A x s) (e : seqOf s m = some ts) : ∃ a xs, x = .ref a ∧ (SqL K H a xs ∨ SqT K F a xs) ∧ RpL K F xs ts := by
  unfold seqOf at e
  split at e
  · rename_i us eu
    cases e
    obtain ⟨a, xs, h1, h2, h3⟩ := lstOf_at o r eu
    exact ⟨a, xs, h1, .inl (SqL.of h2), h3⟩
  · split at e
    · cases e
      cases r with
      | tup h q => exact ⟨_, _, rfl, .inr h, q⟩
    · cases e
      cases r with
      | seq h q => exact ⟨_, _, rfl, .inl (o.sub.seq h), q⟩
    · cases e
theorem cv_tup : CallV K (rTupOf K) gTupOf := by
  intro W F A ρ m σ H xs ss Q w rs g
  unfold gTupOf at g
  split at g
  · rename_i s
    obtain ⟨x, rfl, rx⟩ := rpSs1 rs
    split at g
    · rename_i ts e
      split at g
      · rename_i hz
        obtain ⟨p, ys, rfl, h1, h2⟩ := seqOf_at2 w.os rx e
        refine ⟨p, ys, rfl, h1.elim (fun h => .inl ⟨h, fun l nl => ?_⟩) fun h => .inr ⟨sqT_same w.os.sub h, g.now w (.tup h h2)⟩⟩
        have sN : ∀ o : HO, Same F (upd F l o) := fun o => same_new (w.os.fnone nl)
        exact g.fin (Nxt.new w.os nl) (w.of (sN _) (List.prefix_refl _) (w.os.new nl)) (.tup (SqT.of upd_same) (h2.same (sN _)))
      · exact none_got g
    · exact none_got g
  · exact none_got g
/-! ### str, int, abs, min, max of scalars -/
abbrev rStrI : List V → Hp → VK → Prop := fun xs H Q => ∃ i : Int, xs = [.int i] ∧ i.natAbs.log2 < 1920 ∧ Q (.str (toString i)) H
def gStrI : List Sl → List MO → M Sl
  | [.val (.int i)], m => if i.natAbs.log2 < 1920 then rM (.val (.str (toString i))) m else none
  | _, _ => none
abbrev rAbs : List V → Hp → VK → Prop := fun xs H Q => ∃ i : Int, xs = [.int i] ∧ Q (.int (if i < 0 then -i else i)) H
def gAbs : List Sl → List MO → M Sl
  | [.val (.int i)], m => rM (.val (.int (if i < 0 then -i else i))) m
  | _, _ => none
theorem cv_abs : CallV K rAbs gAbs := by
  intro W F A ρ m σ H xs ss Q w rs g
  unfold gAbs at g
  split at g
  · obtain ⟨x, rfl, rx⟩ := rpSs1 rs
    cases rx
    exact ⟨_, rfl, g.now w (.int _)⟩
  · exact none_got g
abbrev rInt1 : List V → Hp → VK → Prop := fun xs H Q => (∃ i, xs = [.int i] ∧ Q (.int i) H) ∨ ∃ k, xs = [.bl k] ∧ Q (.int (if k then 1 else 0)) H
def gInt1 : List Sl → List MO → M Sl
  | [.val (.int i)], m => rM (.val (.int i)) m
  | [.val (.bl k)], m => rM (.val (.int (if k then 1 else 0))) m
  | _, _ => none
theorem cv_int : CallV K rInt1 gInt1 := by
  intro W F A ρ m σ H xs ss Q w rs g
  unfold gInt1 at g
  split at g
  · obtain ⟨x, rfl, rx⟩ := rpSs1 rs
    cases rx
    exact .inl ⟨_, rfl, g.now w (.int _)⟩
  · obtain ⟨x, rfl, rx⟩ := rpSs1 rs
    cases rx
    exact .inr ⟨_, rfl, g.now w (.int _)⟩
  · exact none_got g
/-! ### sum, sorted, min, max, any, all of lists -/
/-- what is a list, tracked or only read -/
def lsqOf (s : Sl) (m : List MO) : Option (List T) := match lstOf s m with
  | some ts => some ts
  | none => match s with
    | .val (.seq ts) => some ts
    | _ => none
theorem lsqOf_at {F : Hp} {A : List Addr} {m : List MO} {H : Hp} {s : Sl} {x : V} {ts : List T} (o : Objs K F A m H) (r : RpS K F A x s) (e : lsqOf s m = some ts) : ∃ a xs, x = .ref a ∧ SqL K H a xs ∧ RpL K F xs ts := by
  unfold lsqOf at e
  split at e
  · rename_i us eu
    cases e
    obtain ⟨a, xs, h1, h2, h3⟩ := lstOf_at o r eu
    exact ⟨a, xs, h1, SqL.of h2, h3⟩
  · split at e
    · cases e
      cases r with
      | seq h q => exact ⟨_, _, rfl, o.sub.seq h, q⟩
    · cases e
def intsOf : List T → Option (List Int)
  | [] => some []
  | .int i :: r => (intsOf r).map (i :: ·)
  | _ => none
theorem intsOf_rp {F : Hp} : ∀ {ts : List T} {vs : List V} {ns : List Int}, RpL K F vs ts → intsOf ts = some ns → vs = ns.map V.int
  | [], _, ns, .nil, e => by cases e; rfl
  | t :: r, _, ns, .cons a q, e => by
    cases t with
    | int i =>
      unfold intsOf at e
      cases z : intsOf r with
      | none => rw [z] at e; cases e
      | some ms => rw [z] at e; cases e; cases a; rw [intsOf_rp q z, List.map_cons]
    | _ => cases e
def strsOf : List T → Option (List Str)
  | [] => some []
  | .str i :: r => (strsOf r).map (i :: ·)
  | _ => none
theorem strsOf_rp {F : Hp} : ∀ {ts : List T} {vs : List V} {ns : List Str}, RpL K F vs ts → strsOf ts = some ns → vs = ns.map V.str
  | [], _, ns, .nil, e => by cases e; rfl
  | t :: r, _, ns, .cons a q, e => by
    cases t with
    | str i =>
      unfold strsOf at e
      cases z : strsOf r with
      | none => rw [z] at e; cases e
      | some ms => rw [z] at e; cases e; cases a; rw [strsOf_rp q z, List.map_cons]
    | _ => cases e
theorem rp_strs {F : Hp} : ∀ {ns : List Str}, RpL K F (ns.map V.str) (ns.map T.str)
  | [] => .nil
  | n :: r => .cons (.str n) rp_strs
def blsOf : List T → Option (List Bool)
  | [] => some []
  | .bl i :: r => (blsOf r).map (i :: ·)
  | _ => none
theorem blsOf_rp {F : Hp} : ∀ {ts : List T} {vs : List V} {ns : List Bool}, RpL K F vs ts → blsOf ts = some ns → vs = ns.map V.bl
  | [], _, ns, .nil, e => by cases e; rfl
  | t :: r, _, ns, .cons a q, e => by
    cases t with
    | bl i =>
      unfold blsOf at e
      cases z : blsOf r with
      | none => rw [z] at e; cases e
      | some ms => rw [z] at e; cases e; cases a; rw [blsOf_rp q z, List.map_cons]
    | _ => cases e
theorem bind_some {α β : Type} {x : Option α} {f : α → Option β} {b : β} (h : x.bind f = some b) : ∃ a, x = some a ∧ f a = some b := by
  cases x with
  | none => cases h
  | some a => exact ⟨a, rfl, h⟩
def gBools (f : List Bool → Bool) : List Sl → List MO → M Sl
  | [s], m => match (lsqOf s m).bind blsOf with
    | some ns => rM (.val (.bl (f ns))) m
    | none => none
  | _, _ => none
theorem cv_any : CallV K (rAny K) (gBools (·.any id)) := by
  intro W F A ρ m σ H xs ss Q w rs g
  unfold gBools at g
  split at g
  · split at g
    · rename_i ns e
      obtain ⟨ts, e1, e2⟩ := bind_some e
      obtain ⟨x, rfl, rx⟩ := rpSs1 rs
      obtain ⟨a, ys, rfl, h1, h2⟩ := lsqOf_at w.os rx e1
      obtain rfl := blsOf_rp h2 e2
      exact ⟨a, ns, rfl, h1, g.now w (.bl _)⟩
    · exact none_got g
  · exact none_got g
end
end Vs
end
section
/-! Vs12: methods of lists, items, records (dicts by texts). -/
namespace Vs
open PySem PySem.Spec PyProof.Rows L2
variable [WW]
section
variable {K : PySem.W.Frag} {W : WX} {X : Cx}
/-! ### pop, extend -/
theorem RpL.dropLast {F : Hp} {xs : List V} {ts : List T} (r : RpL K F xs ts) : RpL K F xs.dropLast ts.dropLast := by
  rw [List.dropLast_eq_take, List.dropLast_eq_take, r.length]; exact r.take _
theorem RpL.eraseIdx {F : Hp} : ∀ {xs : List V} {ts : List T} (i : Nat), RpL K F xs ts → RpL K F (xs.eraseIdx i) (ts.eraseIdx i)
  | _, _, _, .nil => .nil
  | _, _, 0, .cons a r => r
  | _, _, i + 1, .cons a r => .cons a (RpL.eraseIdx i r)
theorem RpL.set {F : Hp} : ∀ {xs : List V} {ts : List T} {v : V} {t : T} (i : Nat), Rp K F v t → RpL K F xs ts → RpL K F (xs.set i v) (ts.set i t)
  | _, _, _, _, _, _, .nil => .nil
  | _, _, _, _, 0, h, .cons a r => .cons h r
  | _, _, _, _, i + 1, h, .cons a r => .cons a (RpL.set i h r)
def vMet0 (g : Sl → List Sl → List MO → M Sl) (fo : VE) : VE := fun s => bM (fo s) fun o m1 => if isLst o m1 = true then g o [] m1 else none
theorem le_met0 {r : V → List V → Hp → VK → Prop} {g : Sl → List Sl → List MO → M Sl} {fo : VE} (hv : MetV K r g) {σ : L2.St} {H : Hp} {Q : VK} (h : LE K W (vMet0 g fo) σ H Q) : tBM0 K "list" r (LE K W fo) σ H Q := by
  obtain ⟨F, A, ρ, m, w, got⟩ := h
  refine ⟨F, A, ρ, m, w, (Got.bind (R1 := rS K) got).mono fun x H1 ⟨F1, A1, m1, o, n1, w1, ro, q⟩ => ?_⟩
  by_cases e : isLst o m1 = true
  · rw [if_pos e] at q
    obtain ⟨i, a, ts, xs, rfl, rfl, ea, em, fa', eh, rl⟩ := isLst_at w1.os ro e
    exact ⟨.inl ⟨rfl, xs, SqL.of eh⟩, hv W F1 A1 ρ m1 σ H1 _ [] _ [] Q w1 (show RpS K F1 A1 _ (.own i) from ⟨a, ea, rfl⟩) .nil q⟩
  · rw [if_neg e] at q; exact none_got q
def gPop (o : Sl) (ss : List Sl) (m : List MO) : M Sl := match o, ss with
  | .own i, [] => match m[i]? with
    | some (.lst ts) => match ts[ts.length - 1]? with
      | some t => rM (.val t) (m.set i (.lst ts.dropLast))
      | none => none
    | _ => none
  | _, _ => none
theorem mv_pop : MetV K rPop gPop := by
  intro W F A ρ m σ H x xs o ss Q w ro rs g
  unfold gPop at g
  split at g
  · rename_i i
    split at g
    · rename_i ts em
      split at g
      · rename_i t et
        obtain ⟨a, ea, rfl⟩ := ro
        obtain ⟨fa, ys, eh, rl⟩ := w.os.obj i a _ ea em
        cases rs
        obtain ⟨v, ev, rv⟩ := rl.get et
        refine ⟨a, ys, v, rfl, rfl, eh, by rw [rl.length]; exact ev, ?_⟩
        exact g.fin (Nxt.write (List.mem_of_getElem? ea)) (w.of (Same.refl _) (List.prefix_refl _) (w.os.write ea fa ⟨fa, _, upd_same, rl.dropLast⟩)) (show RpS K F A v (.val t) from rv)
      · exact none_got g
    · exact none_got g
  · exact none_got g
def gPopAt (o : Sl) (ss : List Sl) (m : List MO) : M Sl := match o, ss with
  | .own i, [.val (.int k)] => match m[i]? with
    | some (.lst ts) => if ts.length ≤ SZ then match ixN ts.length k with
      | some j => match ts[j]? with
        | some t => rM (.val t) (m.set i (.lst (ts.eraseIdx j)))
        | none => none
      | none => none
      else none
    | _ => none
  | _, _ => none
theorem sz63 {n : Nat} (h : n ≤ SZ) : (n : Int) < 2 ^ 63 := by
  have h1 : n ≤ 1000000 := h
  omega
theorem mv_popAt : MetV K rPopAt gPopAt := by
  intro W F A ρ m σ H x xs o ss Q w ro rs g
  unfold gPopAt at g
  split at g
  · rename_i i k
    split at g
    · rename_i ts em
      split at g
      · rename_i hz
        split at g
        · rename_i j ej
          split at g
          · rename_i t et
            obtain ⟨a, ea, rfl⟩ := ro
            obtain ⟨fa, ys, eh, rl⟩ := w.os.obj i a _ ea em
            obtain ⟨y, rfl, ry⟩ := rpSs1 rs
            cases ry
            obtain ⟨v, ev, rv⟩ := rl.get et
            obtain ⟨h1, h2, h3, h4⟩ := ixN_seq ej
            have h63 := sz63 hz
            refine ⟨a, ys, k, j, v, rfl, rfl, eh, by omega, by omega, by rw [rl.length]; exact h1, ev, ?_⟩
            exact g.fin (Nxt.write (List.mem_of_getElem? ea)) (w.of (Same.refl _) (List.prefix_refl _) (w.os.write ea fa ⟨fa, _, upd_same, rl.eraseIdx j⟩)) (show RpS K F A v (.val t) from rv)
          · exact none_got g
        · exact none_got g
      · exact none_got g
    · exact none_got g
  · exact none_got g
section
variable {o e : Expr} {fo : VE} {fa : VA} {apos cpos : Pos}
theorem pe_vpop (ho : PE X o (LE X.K W fo)) (hbase : attributeBase o "pop" X.env (eval o X.env) = eval o X.env := by rfl) (hline : (apos.endLine == cpos.line) = true := by rfl) : PE X (.Call (.Attribute o "pop" apos) [] [] cpos) (LE X.K W (vMet0 gPop fo)) :=
  PE.imp (pe_bm0 PySem.F.plainAttrs_list PySem.F.slot_list_pop PySem.F.type_list_pop mt_pop ho hbase hline) fun _ _ _ => le_met0 mv_pop
theorem pe_vpopAt (ho : PE X o (LE X.K W fo)) (ha : PA X [e] (LA X.K W fa)) (hbase : attributeBase o "pop" X.env (eval o X.env) = eval o X.env := by rfl)
    (hfew : ((backTo cpos (starEach (e :: []) X.env)).all (fun x => !x.1) && (backToKw cpos (keywordEach [] X.env)).all (fun x => x.1.isSome) && decide ((e :: []).length + ([] : List Keyword).length + (if ([] : List Keyword).isEmpty then 0 else 1) < 30)) = true := by rfl)
    (hline : (apos.endLine == cpos.line) = true := by rfl) (hs : starEach (e :: []) X.env = (false, eval e X.env) :: starEach [] X.env := by rfl) (hplain : (backTo cpos (starEach [] X.env)).any (·.1) = false := by rfl) :
    PE X (.Call (.Attribute o "pop" apos) [e] [] cpos) (LE X.K W (vMet gPopAt fo fa)) := PE.imp (pe_bm PySem.F.plainAttrs_list PySem.F.slot_list_pop PySem.F.type_list_pop mt_popAt ho ha hbase hfew hline hs hplain) fun _ _ _ => le_met mv_popAt
end
/-! ### records: read -/
theorem valV_kvs {z : Str} : ∀ (vs : List (Str × V)), valV (kvs vs) (.inr z : Key) = vs.lookup z
  | [] => rfl
  | (y, v) :: r => by
    have ih := valV_kvs (z := z) r
    unfold valV at ih ⊢
    show (List.find? _ ((Sum.inr y, v) :: kvs r)).map _ = _
    rw [List.find?_cons, List.lookup_cons]
    by_cases e : y = z
    · subst e
      simp
    · have e1 : decide ((Sum.inr y : Key) = Sum.inr z) = false := decide_eq_false (fun q => e (Sum.inr.inj q))
      have e2 : (z == y) = false := by rw [beq_eq_false_iff_ne]; exact fun q => e q.symm
      rw [e1, e2]
      exact ih
theorem RpG.lookup {F : Hp} {A : List Addr} {z : Str} : ∀ {vs : List (Str × V)} {fs : List (Str × Sl)} {s : Sl}, RpG K F A vs fs → fs.lookup z = some s → ∃ v, vs.lookup z = some v ∧ RpS K F A v s
  | _, _, s, .nil, e => by cases e
  | _, _, s, .cons (x := y) h r, e => by
    rw [List.lookup_cons] at e ⊢
    cases q : z == y with
    | true => rw [q] at e; cases e; exact ⟨_, rfl, h⟩
    | false => rw [q] at e; exact RpG.lookup r e
def gRd (a b : Sl) (m : List MO) : M Sl := match a, b with
  | .own i, .val (.str z) => match m[i]? with
    | some (.rcd fs) => match fs.lookup z with
      | some s => rM s m
      | none => none
    | _ => none
  | _, _ => none
abbrev rRd : R2 := fun x y H Q => ∃ a v, x = .ref a ∧ DGet H a y (some v) ∧ Q v H
theorem ov_rd : OpV K rRd gRd := by
  intro W F A ρ m σ H x y a b Q w ra rb g
  unfold gRd at g
  split at g
  · rename_i i z
    split at g
    · rename_i fs em
      split at g
      · rename_i s es
        obtain ⟨ad, ea, rfl⟩ := ra
        obtain ⟨fa, vs, eh, rg⟩ := w.os.obj i ad _ ea em
        cases rb
        obtain ⟨v, ev, rv⟩ := rg.lookup es
        refine ⟨ad, v, rfl, ?_, g.now w rv⟩
        rw [← ev, ← valV_kvs]
        exact DGet.k (k := Sum.inr z) eh
      · exact none_got g
    · exact none_got g
  · exact none_got g
theorem pe_vrd {o i : Expr} {fa fb : VE} {pos : Pos} (hu : X.A.units + 1 < cLine) (ho : PE X o (LE X.K W fa)) (hi : PE X i (LE X.K W fb)) (hs : NoSl i) : PE X (.Subscript o i pos) (LE X.K W (vBin gRd fa fb)) := PE.imp (pe_dget hu ho hi hs) fun σ H Q h => le_bin (r := rRd) ov_rd h
/-! ### records: written -/
def putL {α : Type} (fs : List (Str × α)) (z : Str) (s : α) : List (Str × α) := if (fs.any fun kv => decide (kv.1 = z)) = true then fs.map (fun kv => if kv.1 = z then (kv.1, s) else kv) else fs ++ [(z, s)]
theorem any_kvs {z : Str} : ∀ (vs : List (Str × V)), ((kvs vs).any fun kv => decide (kv.1 = (.inr z : Key))) = vs.any fun kv => decide (kv.1 = z)
  | [] => rfl
  | (y, v) :: r => by
    show ((Sum.inr y, v) :: kvs r).any _ = _
    rw [List.any_cons, List.any_cons, any_kvs r]
    congr 1
    exact decide_eq_decide.mpr ⟨fun q => Sum.inr.inj q, fun q => congrArg Sum.inr q⟩
theorem map_kvs {z : Str} {s : V} : ∀ (vs : List (Str × V)), (kvs vs).map (fun kv => if kv.1 = (.inr z : Key) then (kv.1, s) else kv) = kvs (vs.map fun kv => if kv.1 = z then (kv.1, s) else kv)
  | [] => rfl
  | (y, v) :: r => by
    show ((Sum.inr y, v) :: kvs r).map _ = kvs (((y, v) :: r).map _)
    rw [List.map_cons, List.map_cons, map_kvs r]
    show _ = (Sum.inr _, _) :: kvs _
    by_cases e : y = z
    · subst e; simp
    · have e1 : ¬ (Sum.inr y : Key) = Sum.inr z := fun q => e (Sum.inr.inj q)
      simp only [if_neg e, if_neg e1]
theorem putK_kvs {z : Str} {s : V} (vs : List (Str × V)) : putK (kvs vs) (.inr z : Key) s = kvs (putL vs z s) := by
  unfold putK putL
  rw [any_kvs]
  by_cases e : (vs.any fun kv => decide (kv.1 = z)) = true
  · rw [if_pos e, if_pos e, map_kvs]
  · rw [if_neg e, if_neg e]
    unfold kvs
    rw [List.map_append]
    rfl
theorem RpG.any {F : Hp} {A : List Addr} {z : Str} : ∀ {vs : List (Str × V)} {fs : List (Str × Sl)}, RpG K F A vs fs → (vs.any fun kv => decide (kv.1 = z)) = fs.any fun kv => decide (kv.1 = z)
  | _, _, .nil => rfl
  | _, _, .cons h r => by rw [List.any_cons, List.any_cons, RpG.any r]
theorem RpG.mapPut {F : Hp} {A : List Addr} {z : Str} {v : V} {s : Sl} (rv : RpS K F A v s) : ∀ {vs : List (Str × V)} {fs : List (Str × Sl)}, RpG K F A vs fs → RpG K F A (vs.map fun kv => if kv.1 = z then (kv.1, v) else kv) (fs.map fun kv => if kv.1 = z then (kv.1, s) else kv)
  | _, _, .nil => .nil
  | _, _, .cons (x := y) h r => by
    rw [List.map_cons, List.map_cons]
    by_cases e : y = z
    · rw [if_pos e, if_pos e]; exact .cons rv (RpG.mapPut rv r)
    · rw [if_neg e, if_neg e]; exact .cons h (RpG.mapPut rv r)
theorem RpG.app1 {F : Hp} {A : List Addr} {z : Str} {v : V} {s : Sl} (rv : RpS K F A v s) : ∀ {vs : List (Str × V)} {fs : List (Str × Sl)}, RpG K F A vs fs → RpG K F A (vs ++ [(z, v)]) (fs ++ [(z, s)])
  | _, _, .nil => .cons rv .nil
  | _, _, .cons h r => .cons h (RpG.app1 rv r)
theorem RpG.put {F : Hp} {A : List Addr} {z : Str} {v : V} {s : Sl} {vs : List (Str × V)} {fs : List (Str × Sl)} (rv : RpS K F A v s) (r : RpG K F A vs fs) : RpG K F A (putL vs z v) (putL fs z s) := by
  unfold putL
  rw [r.any]
  by_cases e : (fs.any fun kv => decide (kv.1 = z)) = true
  · rw [if_pos e, if_pos e]; exact r.mapPut rv
  · rw [if_neg e, if_neg e]; exact r.app1 rv
theorem RpG.length {F : Hp} {A : List Addr} : ∀ {vs : List (Str × V)} {fs : List (Str × Sl)}, RpG K F A vs fs → vs.length = fs.length
  | _, _, .nil => rfl
  | _, _, .cons _ r => by rw [List.length_cons, List.length_cons, RpG.length r]
/-- d[k] = v: the value first -/
def gPut (ρ : List (Option Sl)) (v d k : Sl) (m : List MO) : R := match d, k with
  | .own i, .val (.str z) => match m[i]? with
    | some (.rcd fs) => if fs.length < SZ then some (.nx, ⟨ρ, m.set i (.rcd (putL fs z v))⟩) else none
    | _ => none
  | _, _ => none
def vPut (fd fk fv : VE) : VS := fun s => bS s.ρ (fv s) fun v m1 => bS s.ρ (fd ⟨s.ρ, m1⟩) fun d m2 => bS s.ρ (fk ⟨s.ρ, m2⟩) fun k m3 => gPut s.ρ v d k m3
theorem none_ran {F : Hp} {A : List Addr} {H : Hp} {D : Ends} {P : Prop} (h : Ran K W F A H D none) : P := by
  obtain ⟨_, _, z, _⟩ := h; cases z
theorem gPut_go {F : Hp} {A : List Addr} {ρ : List (Option Sl)} {m : List MO} {σ : L2.St} {H : Hp} {D : Ends} {v d k : Sl} {x y z : V} (w : Wd K F A ρ m σ H) (rv : RpS K F A x v) (rd : RpS K F A y d) (rk : RpS K F A z k) (q : Ran K W F A H D (gPut ρ v d k m)) :
    ∃ a H4, y = .ref a ∧ DPut H a z x H4 ∧ D.nx σ H4 := by
  unfold gPut at q
  split at q
  · rename_i j t
    split at q
    · rename_i fs em
      split at q
      · rename_i hz
        obtain ⟨ad, ea, rfl⟩ := rd
        obtain ⟨fa, vs, eh, rg⟩ := w.os.obj j ad _ ea em
        cases rk
        have hl : (kvs vs).length < sizeLine := by unfold kvs; rw [List.length_map, rg.length]; exact sz_lt hz
        refine ⟨ad, _, rfl, DPut.k (k := Sum.inr t) eh hl, ?_⟩
        rw [putK_kvs]
        have wr := w.os.write ea fa (u := .dK (kvs (putL vs t x))) (o := .rcd (putL fs t v)) ⟨fa, _, upd_same, rg.put rv⟩
        exact (q.later (Nxt.write (List.mem_of_getElem? ea))).nx (w.of (Same.refl _) (List.prefix_refl _) wr)
      · exact none_ran q
    · exact none_ran q
  · exact none_ran q
theorem ps_vput {o i value : Expr} {fd fk fv : VE} {pos pos' : Pos} (hu : X.A.units + 1 < cLine) (ho : PE X o (LE X.K W fd)) (hi : PE X i (LE X.K W fk)) (hv : PE X value (LE X.K W fv)) (hs : swapsWith value (some (.Subscript o i pos')) pos.line X.env = pure false := by rfl) :
    PS X (.Assign [.Subscript o i pos'] value pos) (LS X.K W (vPut fd fk fv)) := PS.imp (ps_dput hu ho hi hv hs) fun D σ H ⟨F, A, ρ, m, w, r⟩ =>
  ⟨F, A, ρ, m, w, (Ran.bS (rS X.K) r).mono fun x H1 ⟨F1, A1, m1, v, n1, w1, rv, q1⟩ => ⟨F1, A1, ρ, m1, w1, (Ran.bS (rS X.K) q1).mono fun y H2 ⟨F2, A2, m2, d, n2, w2, rd, q2⟩ => ⟨F2, A2, ρ, m2, w2, (Ran.bS (rS X.K) q2).mono fun z H3 ⟨F3, A3, m3, k, n3, w3, rk, q3⟩ =>
    gPut_go w3 (rv.next (n2.sub.trans n3.sub) (List.IsPrefix.trans n2.pre n3.pre)) (rd.next n3.sub n3.pre) rk q3⟩⟩⟩
/-! ### records: made -/
def vRcd : List (Str × VE) → S → M (List (Str × Sl))
  | [], s => rM [] s.m
  | (x, f) :: r, s => bM (f s) fun v m1 => bM (vRcd r ⟨s.ρ, m1⟩) fun vs m2 => rM ((x, v) :: vs) m2
def distinct : List Str → Bool
  | [] => true
  | x :: r => !r.contains x && distinct r
def gDisp (fs : List (Str × Sl)) (m : List MO) : M Sl := if distinct (fs.map (·.1)) = true ∧ fs.length ≤ 15 then rM (.own m.length) (m ++ [.rcd fs]) else none
def vDisp (l : List (Str × VE)) : VE := fun s => bM (vRcd l s) gDisp
abbrev relD (K : PySem.W.Frag) : Hp → List Addr → Hp → List (V × V) → List (Str × Sl) → Prop := fun F A _ ps fs => ∃ vs, ps = vs.map (fun q => (V.str q.1, q.2)) ∧ RpG K F A vs fs
theorem tp_rcd : ∀ (l : List (Str × VE)) {σ : L2.St} {H : Hp} {Q : List (V × V) → Hp → Prop} {F : Hp} {A : List Addr} {ρ : List (Option Sl)} {m : List MO}, Wd K F A ρ m σ H → Got K W σ ρ F A H (relD K) (vRcd l ⟨ρ, m⟩) Q → tPairs (l.map fun p => (tC (.str p.1), LE K W p.2)) σ H Q
  | [], σ, H, Q, F, A, ρ, m, w, got => Got.now got w ⟨[], rfl, .nil⟩
  | (x, f) :: r, σ, H, Q, F, A, ρ, m, w, got => by
    refine ⟨F, A, ρ, m, w, (Got.bind (R1 := rS K) got).mono fun y H1 ⟨F1, A1, m1, a, n1, w1, ra, g1⟩ => ?_⟩
    refine tp_rcd r w1 ((Got.bind (R1 := relD K) g1).mono fun ps H2 ⟨F2, A2, m2, fs, n2, w2, ⟨vs, e, rg⟩, g2⟩ => ?_)
    exact Got.now g2 w2 ⟨(x, y) :: vs, by rw [e]; rfl, .cons (ra.next n2.sub n2.pre) rg⟩
theorem distinct_not {x : Str} {r : List Str} (h : distinct (x :: r) = true) : x ∉ r ∧ distinct r = true := by
  unfold distinct at h
  rw [Bool.and_eq_true] at h
  refine ⟨fun z => ?_, h.2⟩
  have := List.contains_iff_mem.mpr z
  rw [this] at h
  exact absurd h.1 (by simp)
theorem any_false {z : Str} {vs : List (Str × V)} (h : z ∉ vs.map (·.1)) : (vs.any fun kv => decide (kv.1 = z)) = false := by
  cases e : vs.any fun kv => decide (kv.1 = z) with
  | false => rfl
  | true =>
    obtain ⟨kv, h1, h2⟩ := List.any_eq_true.mp e
    exact absurd (List.mem_map.mpr ⟨kv, h1, of_decide_eq_true h2⟩) h
theorem merge_app : ∀ (vs us : List (Str × V)), (∀ x ∈ vs.map (·.1), x ∉ us.map (·.1)) → distinct (vs.map (·.1)) = true → mergeK (kvs us) (kvs vs) = kvs (us ++ vs)
  | [], us, _, _ => by rw [List.append_nil]; rfl
  | (y, v) :: r, us, h1, h2 => by
    have h2' : distinct (y :: r.map (·.1)) = true := h2
    obtain ⟨d1, d2⟩ := distinct_not h2'
    show mergeK (putK (kvs us) (Sum.inr y) v) (kvs r) = _
    rw [putK_kvs]
    have e : putL us y v = us ++ [(y, v)] := by
      unfold putL
      rw [any_false (h1 y (List.mem_cons_self ..)), if_neg Bool.false_ne_true]
    rw [e, merge_app r (us ++ [(y, v)]) (fun x hx => by
      rw [List.map_append]
      intro z
      rcases List.mem_append.mp z with z | z
      · exact h1 x (List.mem_cons_of_mem _ hx) z
      · have z' : x = y := List.mem_singleton.mp z
        exact d1 (by rw [← z']; exact hx)) d2]
    rw [List.append_assoc]
    rfl
theorem RpG.keys {F : Hp} {A : List Addr} : ∀ {vs : List (Str × V)} {fs : List (Str × Sl)}, RpG K F A vs fs → vs.map (·.1) = fs.map (·.1)
  | _, _, .nil => rfl
  | _, _, .cons _ r => by rw [List.map_cons, List.map_cons, RpG.keys r]
/-- an object that is there joins the store -/
theorem Objs.addO {F : Hp} {A : List Addr} {m : List MO} {H : Hp} {p : Addr} {o : MO} (h : Objs K F A m H) (na : p ∉ A) (e : ∃ u, H p = some u) (r : MRep K F A H p o) (nt : ∀ ps, H p ≠ some (.tbl ps) := by exact notbl upd_same) : Objs K F (A ++ [p]) (m ++ [o]) H where
  sub := h.sub
  len := by rw [List.length_append, List.length_append, h.len]; rfl
  nd := List.nodup_append.mpr ⟨h.nd, (by simp), fun a ha b hb z => by rw [List.mem_singleton.mp hb] at z; exact na (z ▸ ha)⟩
  there := fun a ha => (List.mem_append.mp ha).elim (h.there a) fun z => by rw [List.mem_singleton.mp z]; exact e
  obj := fun i a u h1 h2 => by
    by_cases hi : i < A.length
    · rw [List.getElem?_append_left hi] at h1
      rw [List.getElem?_append_left (h.len ▸ hi)] at h2
      exact (h.obj i a u h1 h2).next (Same.refl _) (List.prefix_append _ _) (fun o e => e) id
    · rw [List.getElem?_append_right (Nat.le_of_not_lt hi)] at h1
      rw [List.getElem?_append_right (h.len ▸ Nat.le_of_not_lt hi), ← h.len] at h2
      cases z : i - A.length with
      | zero =>
        rw [z] at h1 h2
        cases h1
        cases h2
        exact r.next (Same.refl _) (List.prefix_append _ _) (fun o e => e) id
      | succ n => rw [z] at h1; cases h1
  gho := h.gho
  tab := fun q hq => ⟨fun z => (List.mem_append.mp z).elim (h.tab q hq).1 fun z => by
    obtain ⟨_, ps, e2, _⟩ := (h.tab q hq).2
    rw [List.mem_singleton.mp z] at e2
    exact nt ps e2, (h.tab q hq).2⟩
/-- nobody's thing is written -/
theorem Objs.over {F : Hp} {A : List Addr} {m : List MO} {H : Hp} {p : Addr} {u : HO} (h : Objs K F A m H) (fp : F p = none) (na : p ∉ A) (tD : ∀ ps, H p ≠ some (.tbl ps)) : Objs K F A m (upd H p u) where
  sub := fun b v e => by
    have ne : b ≠ p := fun z => by rw [z, fp] at e; cases e
    rw [upd_ne ne]; exact h.sub b v e
  len := h.len
  nd := h.nd
  there := fun a ha => by
    obtain ⟨o, e⟩ := h.there a ha
    exact ⟨o, by rw [upd_ne (fun z => na (by rw [← z]; exact ha))]; exact e⟩
  obj := fun i a o h1 h2 => (h.obj i a o h1 h2).next (Same.refl _) (List.prefix_refl _) (fun o e => by rw [upd_ne (fun z => na (by rw [← z]; exact List.mem_of_getElem? h1))]; exact e) id
  gho := h.gho
  tab := fun q hq => ⟨(h.tab q hq).1, (h.tab q hq).2.next (Same.refl _) (h.tab q hq).2.1 (fun o e => by
    have ne : q.1 ≠ p := fun z => by
      obtain ⟨_, ps, e2, _⟩ := (h.tab q hq).2
      exact tD ps (by rw [← z]; exact e2)
    rw [upd_ne ne]; exact e)⟩
theorem Nxt.addp {F F2 : Hp} {A A2 : List Addr} {H H2 : Hp} {p : Addr} {u : HO} (n : Nxt F A H F2 A2 H2) (hp : H p = none) : Nxt F A H F2 (A2 ++ [p]) (upd H2 p u) :=
  ⟨n.sub, List.IsPrefix.trans n.pre (List.prefix_append _ _), n.fresh, fun a ha => (List.mem_append.mp ha).elim (n.news a) fun z => .inr (by rw [List.mem_singleton.mp z]; exact hp),
    fun a o e ha => (n.keepT a o e ha).imp (fun ⟨ps, z, qs, q⟩ => ⟨ps, z, qs, by rw [upd_ne (ne_of_none e hp)]; exact q⟩) fun q => by rw [upd_ne (ne_of_none e hp)]; exact q⟩
theorem le_disp {l : List (Str × VE)} {σ : L2.St} {H : Hp} {Q : VK} (h : LE K W (vDisp l) σ H Q) : tDisp (l.map fun p => (tC (.str p.1), LE K W p.2)) σ H Q := by
  obtain ⟨F, A, ρ, m, w, got⟩ := h
  intro p np
  have w0 : Wd K F A ρ m σ (upd H p (.dK [])) := w.of (Same.refl _) (List.prefix_refl _) (w.os.keep np)
  have n0 : Nxt F A H F A (upd H p (.dK [])) := ⟨Same.refl _, List.prefix_refl _, fun _ _ e => .inl e, fun _ h => .inl h, fun a o e _ => .inr (by rw [upd_ne (ne_of_none e np)]; exact e)⟩
  refine tp_rcd l w0 ?_
  unfold vDisp at got
  match vRcd l ⟨ρ, m⟩, got with
  | none, got => exact none_got (show Got K W σ ρ F A H (rS K) none Q from got)
  | some (.ex C fs, m1), got =>
    have got : Got K W σ ρ F A H (rS K) (some (.ex C fs, m1)) Q := got
    obtain ⟨_, _, z, got⟩ := got
    cases z
    exact ⟨_, _, rfl, fun F' A' d vs H' n w' => got F' A' d vs H' (n0.trans n) w'⟩
  | some (.ok fs, m1), got =>
    have got : Got K W σ ρ F A H (rS K) (gDisp fs m1) Q := got
    unfold gDisp at got
    split at got
    · rename_i hc
      refine ⟨_, _, rfl, fun F2 A2 ps H2 n w2 r => ?_⟩
      obtain ⟨vs, e, rg⟩ := r
      have pA : p ∉ A := w.os.notin np
      have e2 : H2 p = some (.dK []) := n.keep p _ upd_same pA
      have f2 : F2 p = none := by
        cases q : F2 p with
        | none => rfl
        | some u =>
          rcases n.fresh p u q with y | y | y
          · rw [w.os.fnone np] at y; cases y
          · rw [upd_same] at y; cases y
          · exact absurd y pA
      have p2 : p ∉ A2 := fun z => by
        rcases n.news p z with y | y
        · exact pA y
        · rw [upd_same] at y; cases y
      have hk := rg.keys
      refine ⟨e2, kvs vs, ?_, ?_, ?_⟩
      · rw [e]; unfold kvs; rw [List.map_map]; rfl
      · unfold kvs; rw [List.length_map, rg.length]; exact hc.2
      · have em : mergeK [] (kvs vs) = kvs vs := merge_app vs [] (fun x _ z => by cases z) (by rw [hk]; exact hc.1)
        rw [em]
        have o3 : Objs K F2 (A2 ++ [p]) (m1 ++ [.rcd fs]) (upd H2 p (.dK (kvs vs))) := (w2.os.over f2 p2 (notbl e2)).addO p2 ⟨_, upd_same⟩ ⟨f2, vs, upd_same, rg⟩
        refine got.fin ((n0.trans n).addp np) (w2.of (Same.refl _) (List.prefix_append _ _) o3) ?_
        exact ⟨p, by rw [← w2.os.len, List.getElem?_append_right (Nat.le_refl _), Nat.sub_self]; rfl, rfl⟩
    · exact none_got got
theorem pe_vdisp {keys : List (Option Expr)} {values : List Expr} {l : List (Str × VE)} {pos : Pos} (h : PPs X pos keys values (l.map fun p => (tC (.str p.1), LE X.K W p.2))) (hall : keys.all (·.isSome) = true) (hl : keys.length = values.length) (h0 : keys ≠ []) (h15 : keys.length ≤ 15) : PE X (.Dict keys values pos) (LE X.K W (vDisp l)) := PE.imp (pe_disp h hall hl h0 h15) fun _ _ _ => le_disp
end
end Vs
end
section
/-! sorted of a tuple of ints. -/
namespace Own
open PySem PySem.Spec PyProof.Rows L2
section
variable {prog : Program} {w : World} {A : Around} {E : Value → Shared → Prop} {s : Shared}
end
end Own
end
section
/-! Vs13: what is frozen, enumerate, zip, list(range(..)). -/
namespace Vs
open PySem PySem.Spec PyProof.Rows L2
variable [WW]
section
variable {K : PySem.W.Frag} {W : WX} {X : Cx}
/-! ### a list that from here on is never changed -/
def frS (j : Nat) (ts : List T) : Sl → Sl
  | .own i => if i = j then .val (.lst ts) else .own i
  | s => s
def frO (j : Nat) (ts : List T) : MO → MO
  | .rcd fs => .rcd (fs.map fun p => (p.1, frS j ts p.2))
  | .ins C fs => .ins C (fs.map fun p => (p.1, frS j ts p.2))
  | .lsO ss => .lsO (ss.map (frS j ts))
  | o => o
/-- the list that variable i holds -/
def frz (i : Nat) (s : S) : S := match s.ρ[i]? with
  | some (some (.own j)) => match s.m[j]? with
    | some (.lst ts) => ⟨s.ρ.map (·.map (frS j ts)), (s.m.map (frO j ts)).set j .dead⟩
    | _ => s
  | _ => s
theorem RpS.frz {F : Hp} {A : List Addr} {v : V} {s : Sl} {j : Nat} {a : Addr} {ts : List T} {xs : List V} (ea : A[j]? = some a) (fa : F a = some (.lst xs)) (rl : RpL K F xs ts) (r : RpS K F A v s) : RpS K F A v (frS j ts s) := by
  cases s with
  | val t => exact r
  | own i =>
    unfold frS
    simp only
    by_cases e : i = j
    · rw [if_pos e]
      subst e
      obtain ⟨b, h1, rfl⟩ := r
      rw [ea] at h1
      cases h1
      exact .lst fa rl
    · rw [if_neg e]; exact r
theorem RpG.frz {F : Hp} {A : List Addr} {j : Nat} {a : Addr} {ts : List T} {xs : List V} (ea : A[j]? = some a) (fa : F a = some (.lst xs)) (rl : RpL K F xs ts) : ∀ {vs : List (Str × V)} {fs : List (Str × Sl)}, RpG K F A vs fs → RpG K F A vs (fs.map fun p => (p.1, frS j ts p.2))
  | _, _, .nil => .nil
  | _, _, .cons h r => .cons (h.frz ea fa rl) (RpG.frz ea fa rl r)
theorem RpSs.frz {F : Hp} {A : List Addr} {j : Nat} {a : Addr} {ts : List T} {xs : List V} (ea : A[j]? = some a) (fa : F a = some (.lst xs)) (rl : RpL K F xs ts) : ∀ {vs : List V} {ss : List Sl}, RpSs K F A vs ss → RpSs K F A vs (ss.map (frS j ts))
  | _, _, .nil => .nil
  | _, _, .cons h r => .cons (h.frz ea fa rl) (RpSs.frz ea fa rl r)
theorem frz_ok {F : Hp} {A : List Addr} {ρ : List (Option Sl)} {m : List MO} {σ : L2.St} {H : Hp} (i : Nat) (w : Wd K F A ρ m σ H) : ∃ F', Nxt F A H F' A H ∧ Wd K F' A (frz i ⟨ρ, m⟩).ρ (frz i ⟨ρ, m⟩).m σ H := by
  unfold frz
  split
  · rename_i j e
    split
    · rename_i ts em
      simp only at e em
      obtain ⟨v, ev, a, ea, rfl⟩ := w.slot i _ e
      obtain ⟨fa, xs, eh, rl⟩ := w.os.obj j a _ ea em
      obtain ⟨n2, w2⟩ := freeze w ea em fa eh
      have rl2 := rl.same n2.sub
      have fa2 : upd F a (.lst xs) a = some (.lst xs) := upd_same
      refine ⟨_, n2, ⟨⟨w2.os.sub, ?_, w2.os.nd, w2.os.there, ?_, w2.os.gho, w2.os.tab⟩, ?_, ?_⟩⟩
      · simp only [List.length_set, List.length_map]; exact w.os.len
      · intro k b o h1 h2
        simp only at h2
        by_cases z : j = k
        · subst z
          have hl : j < (m.map (frO j ts)).length := by
            have := (List.getElem?_eq_some_iff.mp h2).1
            rw [List.length_set] at this
            exact this
          rw [List.getElem?_set_self hl] at h2
          cases h2
          trivial
        · rw [List.getElem?_set_ne z, List.getElem?_map] at h2
          cases q : m[k]? with
          | none => rw [q] at h2; cases h2
          | some u =>
            rw [q] at h2
            cases h2
            have r := w2.os.obj k b u h1 (by rw [List.getElem?_set_ne z]; exact q)
            cases u with
            | lst us => exact r
            | rcd fs => obtain ⟨r1, vs, r2, r3⟩ := r; exact ⟨r1, vs, r2, r3.frz ea fa2 rl2⟩
            | ins C fs => obtain ⟨r1, dx, vs, r2, r3⟩ := r; exact ⟨r1, dx, vs, r2, r3.frz ea fa2 rl2⟩
            | lsO ss => obtain ⟨r1, vs, r2, r3⟩ := r; exact ⟨r1, vs, r2, r3.frz ea fa2 rl2⟩
            | dct ps => exact r
            | dctL ps => exact r
            | dead => trivial
      · intro k r h
        simp only [List.getElem?_map] at h
        cases q : ρ[k]? with
        | none => rw [q] at h; cases h
        | some u =>
          rw [q] at h
          cases u with
          | none => cases h
          | some s =>
            cases h
            obtain ⟨v, h1, h2⟩ := w2.slot k s q
            exact ⟨v, h1, h2.frz ea fa2 rl2⟩
      · simp only [List.length_map]; exact w.slen
    · exact ⟨F, Nxt.refl, w⟩
  · exact ⟨F, Nxt.refl, w⟩
/-- the list of variable i is frozen ahead of a statement -/
def vFrz (i : Nat) (f : VS) : VS := fun s => f (frz i s)
theorem ls_frz {i : Nat} {f : VS} {D : Ends} {σ : L2.St} {H : Hp} (h : LS K W (vFrz i f) D σ H) : LS K W f D σ H := by
  obtain ⟨F, A, ρ, m, w, r⟩ := h
  obtain ⟨F', n, w'⟩ := frz_ok i w
  exact ⟨F', A, _, _, w', Ran.later r n⟩
theorem ps_frz {st : Stmt} {f : VS} (i : Nat) (h : PS X st (LS K W f)) : PS X st (LS K W (vFrz i f)) := PS.imp h fun _ _ _ => ls_frz
/-! ### enumerate -/
def numT : Nat → List T → List T
  | _, [] => []
  | i, t :: r => .tup [.int i, t] :: numT (i + 1) r
theorem numT_len : ∀ (k : Nat) (ts : List T), (numT k ts).length = ts.length
  | _, [] => rfl
  | k, t :: r => by show (numT (k + 1) r).length + 1 = _; rw [numT_len (k + 1) r]; rfl
theorem numT_get : ∀ (k : Nat) (ts : List T) (i : Nat) (t : T), (numT k ts)[i]? = some t → ∃ u, ts[i]? = some u ∧ t = .tup [.int ((k + i : Nat) : Int), u]
  | k, [], i, t, e => by simp [numT] at e
  | k, u :: r, 0, t, e => by
    cases e
    exact ⟨u, rfl, rfl⟩
  | k, u :: r, i + 1, t, e => by
    obtain ⟨w, h1, h2⟩ := numT_get (k + 1) r i t e
    exact ⟨w, h1, by rw [h2, show k + 1 + i = k + (i + 1) by omega]⟩
theorem Rp.pair {F : Hp} {A : List Addr} {m : List MO} {H : Hp} {p : Addr} {x y : V} {t u : T} (o : Objs K F A m H) (np : H p = none) (rx : Rp K F x t) (ry : Rp K F y u) :
    ∃ F', Nxt F A H F' A (upd H p (.tup [x, y])) ∧ Objs K F' A m (upd H p (.tup [x, y])) ∧ Rp K F' (.ref p) (.tup [t, u]) :=
  have s := same_new (o := HO.tup [x, y]) (o.fnone np)
  ⟨_, Nxt.new o np, o.new np, .tup (SqT.of upd_same) (.cons (rx.same s) (.cons (ry.same s) .nil))⟩
theorem walk_enum {F : Hp} {A : List Addr} {H : Hp} {a : Addr} {xs : List V} {ts : List T} (s : Same F H) (h : SqL K F a xs) (r : RpL K F xs ts) : Walks K F A H (Ite K a) (numT 0 ts) := fun F' A' H' m n o i => by
  have h' : SqL K H' a xs := o.sub.seq (n.seq h)
  refine ⟨fun t e => ?_, fun hi => ⟨xs, h', by rw [r.length, ← numT_len 0 ts]; exact hi⟩⟩
  obtain ⟨u, eu, rfl⟩ := numT_get 0 ts i t e
  obtain ⟨v, ev, rv⟩ := r.get eu
  refine ⟨⟨xs, v, h', ev⟩, fun x H'' ⟨T', y, ex, np, eH, q⟩ => ?_⟩
  subst ex eH
  have := q xs h'
  rw [ev] at this
  cases this
  rw [Nat.zero_add]
  exact Rp.pair o np (.int _) (rv.same n)
theorem walk_enumT {F : Hp} {A : List Addr} {H : Hp} {a : Addr} {xs : List V} {ts : List T} (s : Same F H) (h : SqT K F a xs) (r : RpL K F xs ts) : Walks K F A H (Own.IteT K a) (numT 0 ts) := fun F' A' H' m n o i => by
  have h' : SqT K H' a xs := sqT_same o.sub (sqT_same n h)
  refine ⟨fun t e => ?_, fun hi => ⟨xs, h', by rw [r.length, ← numT_len 0 ts]; exact hi⟩⟩
  obtain ⟨u, eu, rfl⟩ := numT_get 0 ts i t e
  obtain ⟨v, ev, rv⟩ := r.get eu
  refine ⟨⟨xs, v, h', ev⟩, fun x H'' ⟨T', y, ex, np, eH, q⟩ => ?_⟩
  subst ex eH
  have := q xs h'
  rw [ev] at this
  cases this
  rw [Nat.zero_add]
  exact Rp.pair o np (.int _) (rv.same n)
/-! ### zip -/
/-- a list, only read -/
def gLs : Sl → Option (List T)
  | .val (.lst ts) => some ts
  | .val (.seq ts) => some ts
  | _ => none
theorem gLs_at {F : Hp} {A : List Addr} {x : V} {s : Sl} {ts : List T} (r : RpS K F A x s) (e : gLs s = some ts) : ∃ a xs, x = .ref a ∧ SqL K F a xs ∧ RpL K F xs ts := by
  unfold gLs at e
  split at e
  · cases e
    cases r with
    | lst h q => exact ⟨_, _, rfl, SqL.of h, q⟩
  · cases e
    cases r with
    | seq h q => exact ⟨_, _, rfl, h, q⟩
  · cases e
def gEnumL (ss : List Sl) (m : List MO) : M (List T) := match ss with
  | [s] => match gLs s with
    | some ts => rM (numT 0 ts) m
    | none => match s with
      | .val (.tup ts) => rM (numT 0 ts) m
      | _ => none
  | _ => none
def vEnum (f : VA) : VI := fun s => bM (f s) gEnumL
theorem pi_venum {e : Expr} {f : VA} {p pos tpos : Pos} {elts : List Expr} {kk : Nat} (hg : Gl X "enumerate") (hm : X.mg "enumerate" = none) (ha : PA X [e] (LA X.K W f)) (hs : starEach [e] X.env = [(false, eval e X.env)] := by rfl) : PI X (.Tuple elts kk tpos) (.Call (.Name "enumerate" p) [e] [] pos) (LI X.K W (vEnum f)) := PI.imp (Own.pi_enumS hg hm ha hs) fun σ H R ⟨F, A, ρ, m, w, g⟩ =>
  ⟨F, A, ρ, m, w, (Got.bind (R1 := fun F' A' _ vs ss => RpSs X.K F' A' vs ss) g).mono fun vs H1 ⟨F1, A1, m1, ss, n, w1, rs, q⟩ => by
    unfold gEnumL at q
    split at q
    · split at q
      · rename_i ts e
        obtain ⟨x, rfl, rx⟩ := rpSs1 rs
        obtain ⟨a, xs, rfl, h1, h2⟩ := gLs_at rx e
        exact ⟨a, xs, rfl, .inl ⟨w1.os.sub.seq h1, q.now w1 (walk_enum w1.os.sub h1 h2)⟩⟩
      · split at q
        · obtain ⟨x, rfl, rx⟩ := rpSs1 rs
          cases rx with
          | tup h1 h2 => exact ⟨_, _, rfl, .inr ⟨sqT_same w1.os.sub h1, q.now w1 (walk_enumT w1.os.sub h1 h2)⟩⟩
        · exact none_got q
    · exact none_got q⟩
/-! ### list(range(..)) -/
/-! ### sorted of a list or a tuple of ints -/
end
end Vs
end
section
/-! Vs14: instances: fields, methods by class, making, what is frozen. -/
namespace Vs
open PySem PySem.Spec PyProof.Rows L2
variable [WW]
section
variable {K : PySem.W.Frag} {W : WX} {X : Cx}
/-! ### fields -/
def FldOk (K : PySem.W.Frag) (f : Str) (ok : Addr → Bool) : Prop := ∀ C, ok C = true → Cls K C ∧ NoAttr K C f
def gFld (ok : Addr → Bool) (f : Str) (s : Sl) (m : List MO) : M Sl := match s with
  | .val (.ins C fs) => if ok C = true then match fs.lookup f with
    | some t => rM (.val t) m
    | none => none
    else none
  | .own i => match m[i]? with
    | some (.ins C fs) => if ok C = true then match fs.lookup f with
      | some t => rM t m
      | none => none
      else none
    | _ => none
  | _ => none
def vFld (ok : Addr → Bool) (f : Str) (fe : VE) : VE := fun s => bM (fe s) (gFld ok f)
theorem fld_go {F : Hp} {A : List Addr} {ρ : List (Option Sl)} {m : List MO} {σ : L2.St} {H : Hp} {x : V} {s : Sl} {f : Str} {ok : Addr → Bool} {Q : VK} (hok : FldOk K f ok) (w : Wd K F A ρ m σ H) (rx : RpS K F A x s) (g : Got K W σ ρ F A H (rS K) (gFld ok f s m) Q) :
    ∃ a C dx fs v, x = .ref a ∧ H a = some (.ins C dx fs) ∧ Cls K C ∧ NoAttr K C f ∧ fs.lookup f = some v ∧ Q v H := by
  unfold gFld at g
  split at g
  · rename_i C fs
    split at g
    · rename_i hc
      split at g
      · rename_i t et
        cases rx with
        | ins h r =>
          obtain ⟨v, ev, rv⟩ := r.lookup et
          exact ⟨_, C, _, _, v, rfl, w.os.sub _ _ h, (hok C hc).1, (hok C hc).2, ev, g.now w (show RpS K F A v (.val t) from rv)⟩
      · exact none_got g
    · exact none_got g
  · rename_i i
    split at g
    · rename_i C fs em
      split at g
      · rename_i hc
        split at g
        · rename_i t et
          obtain ⟨a, ea, rfl⟩ := rx
          obtain ⟨fa, dx, vs, eh, rg⟩ := w.os.obj i a _ ea em
          obtain ⟨v, ev, rv⟩ := rg.lookup et
          exact ⟨a, C, dx, vs, v, rfl, eh, (hok C hc).1, (hok C hc).2, ev, g.now w rv⟩
        · exact none_got g
      · exact none_got g
    · exact none_got g
  · exact none_got g
theorem pe_vfld {e : Expr} {f : Str} {fe : VE} {pos : Pos} (ok : Addr → Bool) (hok : FldOk X.K f ok) (he : PE X e (LE X.K W fe)) (hb : attributeBase e f X.env (eval e X.env) = eval e X.env := by rfl) : PE X (.Attribute e f pos) (LE X.K W (vFld ok f fe)) := PE.imp (pe_fld he hb) fun σ H Q ⟨F, A, ρ, m, w, g⟩ =>
  ⟨F, A, ρ, m, w, (Got.bind (R1 := rS X.K) g).mono fun x H1 ⟨F1, A1, m1, s, n1, w1, rx, q⟩ => fld_go hok w1 rx q⟩
/-- o.f = value -/
def putS (f : Str) (s : Sl) : List (Str × Sl) → List (Str × Sl)
  | [] => [(f, s)]
  | (g, x) :: r => if g = f then (g, s) :: r else (g, x) :: putS f s r
theorem RpG.putF {F : Hp} {A : List Addr} {f : Str} {v : V} {s : Sl} (rv : RpS K F A v s) : ∀ {vs : List (Str × V)} {fs : List (Str × Sl)}, RpG K F A vs fs → RpG K F A (putF f v vs) (putS f s fs)
  | _, _, .nil => .cons rv .nil
  | _, _, .cons (x := y) h r => by
    show RpG K F A (if y = f then _ else _) (if y = f then _ else _)
    by_cases e : y = f
    · rw [if_pos e, if_pos e]; exact .cons rv r
    · rw [if_neg e, if_neg e]; exact .cons h (RpG.putF rv r)
def gSetF (ok : Addr → Bool) (f : Str) (ρ : List (Option Sl)) (v o : Sl) (m : List MO) : R := match o with
  | .own i => match m[i]? with
    | some (.ins C fs) => if ok C = true ∧ fs.length < 1000 then some (.nx, ⟨ρ, m.set i (.ins C (putS f v fs))⟩) else none
    | _ => none
  | _ => none
def vSetF (ok : Addr → Bool) (f : Str) (fo fv : VE) : VS := fun s => bS s.ρ (fv s) fun v m1 => bS s.ρ (fo ⟨s.ρ, m1⟩) fun o m2 => gSetF ok f s.ρ v o m2
theorem setF_go {F : Hp} {A : List Addr} {ρ : List (Option Sl)} {m : List MO} {σ : L2.St} {H : Hp} {D : Ends} {v o : Sl} {x y : V} {f : Str} {ok : Addr → Bool} (hok : FldOk K f ok) (w : Wd K F A ρ m σ H) (rv : RpS K F A y v) (ro : RpS K F A x o) (q : Ran K W F A H D (gSetF ok f ρ v o m)) :
    ∃ a C dx fs, x = .ref a ∧ H a = some (.ins C dx fs) ∧ Cls K C ∧ NoAttr K C f ∧ fs.length < 1000 ∧ D.nx σ (upd H a (.ins C dx (putF f y fs))) := by
  unfold gSetF at q
  split at q
  · rename_i i
    split at q
    · rename_i C fs em
      split at q
      · rename_i hc
        obtain ⟨a, ea, rfl⟩ := ro
        obtain ⟨fa, dx, vs, eh, rg⟩ := w.os.obj i a _ ea em
        refine ⟨a, C, dx, vs, rfl, eh, (hok C hc.1).1, (hok C hc.1).2, by rw [rg.length]; exact hc.2, ?_⟩
        have wr := w.os.write ea fa (u := .ins C dx (putF f y vs)) (o := .ins C (putS f v fs)) ⟨fa, dx, _, upd_same, rg.putF rv⟩
        exact (q.later (Nxt.write (List.mem_of_getElem? ea))).nx (w.of (Same.refl _) (List.prefix_refl _) wr)
      · exact none_ran q
    · exact none_ran q
  · exact none_ran q
theorem ps_vsetF {o value : Expr} {f : Str} {fo fv : VE} {pos pos' : Pos} (ok : Addr → Bool) (hok : FldOk X.K f ok) (ho : PE X o (LE X.K W fo)) (hv : PE X value (LE X.K W fv)) (hs : swapsWith value (some (.Attribute o f pos')) pos.line X.env = pure false := by rfl) :
    PS X (.Assign [.Attribute o f pos'] value pos) (LS X.K W (vSetF ok f fo fv)) := PS.imp (ps_fld ho hv hs) fun D σ H ⟨F, A, ρ, m, w, r⟩ =>
  ⟨F, A, ρ, m, w, (Ran.bS (rS X.K) r).mono fun y H1 ⟨F1, A1, m1, v, n1, w1, rv, q1⟩ => ⟨F1, A1, ρ, m1, w1, (Ran.bS (rS X.K) q1).mono fun x H2 ⟨F2, A2, m2, o, n2, w2, ro, q2⟩ =>
    setF_go hok w2 (rv.next n2.sub n2.pre) ro q2⟩⟩
/-! ### methods, by the class of the object -/
def insOf (s : Sl) (m : List MO) : Option (Addr × List Str) := match s with
  | .val (.ins C fs) => some (C, fs.map (·.1))
  | .own i => match m[i]? with
    | some (.ins C fs) => some (C, fs.map (·.1))
    | _ => none
  | _ => none
theorem RpF.keys {F : Hp} : ∀ {vs : List (Str × V)} {ts : List (Str × T)}, RpF K F vs ts → vs.map (·.1) = ts.map (·.1)
  | _, _, .nil => rfl
  | _, _, .cons _ r => by rw [List.map_cons, List.map_cons, RpF.keys r]
theorem lookup_notin {f : Str} : ∀ {vs : List (Str × V)}, f ∉ vs.map (·.1) → vs.lookup f = none
  | [], _ => rfl
  | (g, v) :: r, h => by
    rw [List.lookup_cons]
    have ne : (f == g) = false := by rw [beq_eq_false_iff_ne]; exact fun z => h (by rw [z]; exact List.mem_cons_self ..)
    rw [ne]
    exact lookup_notin fun z => h (List.mem_cons_of_mem _ z)
theorem insOf_at {F : Hp} {A : List Addr} {m : List MO} {H : Hp} {s : Sl} {x : V} {C : Addr} {ns : List Str} (o : Objs K F A m H) (r : RpS K F A x s) (e : insOf s m = some (C, ns)) : ∃ a dx vs, x = .ref a ∧ H a = some (.ins C dx vs) ∧ vs.map (·.1) = ns := by
  unfold insOf at e
  split at e
  · cases e
    cases r with
    | ins h q => exact ⟨_, _, _, rfl, o.sub _ _ h, q.keys⟩
  · rename_i i
    split at e
    · rename_i C' fs em
      cases e
      obtain ⟨a, ea, rfl⟩ := r
      obtain ⟨fa, dx, vs, eh, rg⟩ := o.obj i a _ ea em
      exact ⟨a, dx, vs, rfl, eh, rg.keys⟩
    · cases e
  · cases e
/-- a class's method is the def that is as vf says -/
def MV (X : Cx) (m : Str) (np : Nat) (C : Addr) (vf : VF) : Prop := Cls X.K C ∧ ∃ (k : Nat) (g : Addr) (fd : FuncData) (ps : List Str), Meth X.K C m g ∧ FnOk X.prog X.w X.K X.mg X.base (L2.CX X.prog X.w) k g fd ps (SpV X.K np vf) ∧ Room k X.A ∧ Binds X.K fd ps []
def tMethD (tb : Addr → Option VF) (K : PySem.W.Frag) (m : Str) (np : Nat) (E : L2.St → XK) (ta : TE) (t : TA) : TE := fun σ H Q => ta σ H fun x H1 => ∃ a C dx fs vf, x = .ref a ∧ H1 a = some (.ins C dx fs) ∧ fs.lookup m = none ∧ tb C = some vf ∧ t σ H1 fun vs H2 => SpV K np vf (x :: vs) H2 Q (E σ)
theorem pe_methD {tb : Addr → Option VF} {m : Str} {np : Nat} {E : L2.St → XK} {o e : Expr} {es : List Expr} {ta : TE} {t : TA} {apos pos : Pos} {pl : Sem Bool} (he : PE X o ta) (hT : ∀ C vf, tb C = some vf → MV X m np C vf) (hx : ∀ σ, PassesAt (L2.CX X.prog X.w) X σ (E σ)) (ha : PA X (e :: es) t)
    (hst : starEach (e :: es) X.env = (false, eval e X.env) :: starEach es X.env := by rfl) (hpl : (backTo pos (starEach es X.env)).any (·.1) = false := by rfl)
    (ht : eval (.Call (.Attribute o m apos) (e :: es) [] pos) X.env = (do
      let ov ← eval o X.env
      standAt apos.atName
      let (f, first) ← holding [ov] (getMethod ov m pl)
      callWith pos f first (backTo pos (starEach (e :: es) X.env)) (backToKw pos (keywordEach [] X.env))) := by rfl) :
    PE X (.Call (.Attribute o m apos) (e :: es) [] pos) (tMethD tb X.K m np E ta t) := by
  refine ⟨fun pins s σ H Q I h => ?_⟩
  refine PySem.W.methodCall_KW (pl := pl) (thn (he.run pins s σ H _ I h) fun u s1 ⟨x, H1, I1, rx, a, C, dx, fs, vf, ex, ea, l, hv, q⟩ => ?_) ht
  subst ex
  obtain rfl : u = Value.ref a := rx
  obtain ⟨c, k, g, fd, ps, hm, F, hr, hb⟩ := hT C vf hv
  refine getmeth_ok I1 ea c hm l ?_
  refine PySem.W.callWith_K (first := [.ref a]) (h₀ := X.base) I.ok.mod.kin hm.kp (thn (ha.run pos pins s1 σ H1 _ I1 q) fun us s2 ⟨vs, H2, I2, r, q2⟩ => ⟨I2.kIn, ?_⟩) hst hpl
  exact run_fnS (us := .ref a :: us) (vs := .ref a :: vs) F hr hb (hx σ) I2 (.cons rfl r) q2
theorem pe_methD0 {tb : Addr → Option VF} {m : Str} {np : Nat} {E : L2.St → XK} {o : Expr} {ta : TE} {apos pos : Pos} {pl : Sem Bool} (he : PE X o ta) (hT : ∀ C vf, tb C = some vf → MV X m np C vf) (hx : ∀ σ, PassesAt (L2.CX X.prog X.w) X σ (E σ))
    (ht : eval (.Call (.Attribute o m apos) [] [] pos) X.env = (do
      let ov ← eval o X.env
      standAt apos.atName
      let (f, first) ← holding [ov] (getMethod ov m pl)
      callWith pos f first (backTo pos (starEach [] X.env)) (backToKw pos (keywordEach [] X.env))) := by rfl) :
    PE X (.Call (.Attribute o m apos) [] [] pos) (tMethD tb X.K m np E ta tNil) := by
  refine ⟨fun pins s σ H Q I h => ?_⟩
  refine PySem.W.methodCall_KW (pl := pl) (thn (he.run pins s σ H _ I h) fun u s1 ⟨x, H1, I1, rx, a, C, dx, fs, vf, ex, ea, l, hv, q⟩ => ?_) ht
  subst ex
  obtain rfl : u = Value.ref a := rx
  obtain ⟨c, k, g, fd, ps, hm, F, hr, hb⟩ := hT C vf hv
  refine getmeth_ok I1 ea c hm l ?_
  exact PySem.W.callWith_K0 (first := [.ref a]) I1.kIn hm.kp (run_fnS (us := [.ref a]) (vs := [.ref a]) F hr hb (hx σ) I1 (.cons rfl .nil) q)
def vMethD (tb : Addr → Option VF) (m : Str) (fo : VE) (fa : VA) : VE := fun s => bM (fo s) fun o m1 => match insOf o m1 with
  | some (C, ns) => if m ∉ ns then match tb C with
    | some vf => bM (fa ⟨s.ρ, m1⟩) fun ss m2 => callM vf (o :: ss) m2
    | none => none
    else none
  | none => none
theorem le_methD {tb : Addr → Option VF} {m : Str} {np : Nat} {fo : VE} {fa : VA} (hn : ∀ s ss m, fa s = some (.ok ss, m) → ss.length + 1 = np) {σ : L2.St} {H : Hp} {Q : VK} (h : LE K W (vMethD tb m fo fa) σ H Q) : tMethD tb K m np (WE W) (LE K W fo) (LA K W fa) σ H Q := by
  obtain ⟨F, A, ρ, m0, w, got⟩ := h
  refine ⟨F, A, ρ, m0, w, (Got.bind (R1 := rS K) got).mono fun x H1 ⟨F1, A1, m1, o, n1, w1, ro, q⟩ => ?_⟩
  split at q
  · rename_i C ns e
    split at q
    · rename_i hns
      split at q
      · rename_i vf ev
        obtain ⟨a, dx, vs, rfl, ea, ek⟩ := insOf_at w1.os ro e
        refine ⟨a, C, dx, vs, vf, rfl, ea, lookup_notin (by rw [ek]; exact hns), ev, F1, A1, ρ, m1, w1, ?_⟩
        match e2 : fa ⟨ρ, m1⟩, q with
        | none, q => exact none_got (show Got K W σ ρ F1 A1 H1 (rS K) none Q from q)
        | some (.ex D fs, m2), q =>
          have q : Got K W σ ρ F1 A1 H1 (rS K) (some (.ex D fs, m2)) Q := q
          obtain ⟨_, _, z, q⟩ := q
          cases z
          exact ⟨_, _, rfl, q⟩
        | some (.ok ss, m2), q =>
          have q : Got K W σ ρ F1 A1 H1 (rS K) (callM vf (o :: ss) m2) Q := q
          have hl := hn _ _ _ e2
          exact ⟨_, _, rfl, fun F2 A2 ws H2 n2 w2 rs => call_got (by rw [List.length_cons, RpSs.length rs]; exact hl) w2 (.cons (ro.next n2.sub n2.pre) rs) (Got.later q n2)⟩
      · exact none_got q
    · exact none_got q
  · exact none_got q
theorem pe_vmethD {tb : Addr → Option VF} {m : Str} {np : Nat} {o e : Expr} {es : List Expr} {fo : VE} {fa : VA} {apos pos : Pos} {pl : Sem Bool} (tk : Takes X W) (hT : ∀ C vf, tb C = some vf → MV X m np C vf) (hn : ∀ s ss m, fa s = some (.ok ss, m) → ss.length + 1 = np) (ho : PE X o (LE X.K W fo)) (ha : PA X (e :: es) (LA X.K W fa))
    (hst : starEach (e :: es) X.env = (false, eval e X.env) :: starEach es X.env := by rfl) (hpl : (backTo pos (starEach es X.env)).any (·.1) = false := by rfl)
    (ht : eval (.Call (.Attribute o m apos) (e :: es) [] pos) X.env = (do
      let ov ← eval o X.env
      standAt apos.atName
      let (f, first) ← holding [ov] (getMethod ov m pl)
      callWith pos f first (backTo pos (starEach (e :: es) X.env)) (backToKw pos (keywordEach [] X.env))) := by rfl) :
    PE X (.Call (.Attribute o m apos) (e :: es) [] pos) (LE X.K W (vMethD tb m fo fa)) := PE.imp (pe_methD ho hT (fun σ => passAt tk σ) ha hst hpl ht) fun _ _ _ => le_methD hn
theorem tNil_LA {f : VE} {tb : Addr → Option VF} {m : Str} {np : Nat} {σ : L2.St} {H : Hp} {Q : VK} (h : tMethD tb K m np (WE W) (LE K W f) (LA K W vNil) σ H Q) : tMethD tb K m np (WE W) (LE K W f) tNil σ H Q := by
  obtain ⟨F, A, ρ, m0, w, got⟩ := h
  refine ⟨F, A, ρ, m0, w, got.mono fun x H1 ⟨a, C, dx, fs, vf, ex, ea, l, hv, q⟩ => ⟨a, C, dx, fs, vf, ex, ea, l, hv, ?_⟩⟩
  obtain ⟨F2, A2, ρ2, m2, w2, g2⟩ := q
  exact g2.now w2 .nil
theorem pe_vmethD0 {tb : Addr → Option VF} {m : Str} {o : Expr} {fo : VE} {apos pos : Pos} {pl : Sem Bool} (tk : Takes X W) (hT : ∀ C vf, tb C = some vf → MV X m 1 C vf) (ho : PE X o (LE X.K W fo))
    (ht : eval (.Call (.Attribute o m apos) [] [] pos) X.env = (do
      let ov ← eval o X.env
      standAt apos.atName
      let (f, first) ← holding [ov] (getMethod ov m pl)
      callWith pos f first (backTo pos (starEach [] X.env)) (backToKw pos (keywordEach [] X.env))) := by rfl) :
    PE X (.Call (.Attribute o m apos) [] [] pos) (LE X.K W (vMethD tb m fo vNil)) := PE.imp (pe_methD0 ho hT (fun σ => passAt tk σ) ht) fun _ _ _ h => tNil_LA (le_methD (fun s ss m e => by rw [vnil_len s ss m e]) h)
/-! ### an instance is made -/
def vMake (C : Addr) (vf : VF) (fa : VA) : VE := fun s => bM (fa s) fun ss m1 => bM (callM vf (.own m1.length :: ss) (m1 ++ [.ins C []])) fun r m2 => match r with
  | .val .non => rM (.own m1.length) m2
  | _ => none
theorem make_go {np : Nat} {C : Addr} {vf : VF} {F : Hp} {A : List Addr} {ρ : List (Option Sl)} {m1 : List MO} {σ : L2.St} {H1 : Hp} {vs : List V} {ss : List Sl} {Q : VK} (hl : vs.length + 1 = np) (w1 : Wd K F A ρ m1 σ H1) (rs : RpSs K F A vs ss)
    (q : Got K W σ ρ F A H1 (rS K) (bM (callM vf (.own m1.length :: ss) (m1 ++ [.ins C []])) fun r m2 => match r with
      | .val .non => rM (.own m1.length) m2
      | _ => none) Q) (x dx : Addr) (nx : H1 x = none) (nd : H1 dx = none) (ne : dx ≠ x) : SpV K np vf (.ref x :: vs) (upd (upd H1 dx (.own x)) x (.ins C dx [])) (fun v H2 => v = .non ∧ Q (.ref x) H2) (WE W σ) := by
  have o1 : Objs K F A m1 (upd H1 dx (.own x)) := w1.os.keep nd
  have nx1 : upd H1 dx (.own x) x = none := by rw [upd_ne (Ne.symm ne)]; exact nx
  have n0 : Nxt F A H1 F A (upd H1 dx (.own x)) := ⟨Same.refl _, List.prefix_refl _, fun _ _ e => .inl e, fun _ h => .inl h, fun a o e _ => .inr (by rw [upd_ne (ne_of_none e nd)]; exact e)⟩
  have xA : x ∉ A := w1.os.notin nx
  have fx : F x = none := w1.os.fnone nx
  have o2 : Objs K F (A ++ [x]) (m1 ++ [.ins C []]) (upd (upd H1 dx (.own x)) x (.ins C dx [])) := (o1.over fx xA (notbl0 nx1)).addO xA ⟨_, upd_same⟩ ⟨fx, dx, [], upd_same, .nil⟩
  have n2 : Nxt F A H1 F (A ++ [x]) (upd (upd H1 dx (.own x)) x (.ins C dx [])) := n0.addp nx
  have w2 := w1.of (Same.refl _) (List.prefix_append A [x]) o2
  have rx : RpS K F (A ++ [x]) (.ref x) (.own m1.length) := ⟨x, by rw [← w1.os.len, List.getElem?_append_right (Nat.le_refl _), Nat.sub_self]; rfl, rfl⟩
  have rs2 : RpSs K F (A ++ [x]) vs ss := by
    clear q hl
    induction rs with
    | nil => exact .nil
    | cons h _ ih => exact .cons (h.next (Same.refl _) (List.prefix_append _ _)) ih
  refine call_got (by rw [List.length_cons]; exact hl) w2 (.cons rx rs2) ((Got.bind (R1 := rS K) (Got.later q n2)).mono fun b H3 ⟨F3, A3, m3, r, n3, w3, rr, q3⟩ => ?_)
  split at q3
  · cases rr
    refine ⟨rfl, q3.now w3 ?_⟩
    exact rx.next n3.sub n3.pre
  · exact none_got q3
theorem le_make {np : Nat} {C : Addr} {vf : VF} {fa : VA} (hn : ∀ s ss m, fa s = some (.ok ss, m) → ss.length + 1 = np) {σ : L2.St} {H : Hp} {Q : VK} (h : LE K W (vMake C vf fa) σ H Q) : Own.tMakeS C (SpV K np vf) [] (WE W) (LA K W fa) σ H Q := by
  obtain ⟨F, A, ρ, m, w, g⟩ := h
  refine ⟨F, A, ρ, m, w, ?_⟩
  match e : fa ⟨ρ, m⟩, g with
  | none, g => unfold vMake at g; rw [e] at g; exact none_got g
  | some (.ex D fs, m1), g =>
    unfold vMake at g
    rw [e] at g
    obtain ⟨_, _, z, g⟩ := g
    cases z
    exact ⟨_, _, rfl, g⟩
  | some (.ok ss, m1), g =>
    unfold vMake at g
    rw [e] at g
    have hl := hn _ _ _ e
    refine ⟨_, _, rfl, fun F1 A1 vs H1 n1 w1 rs x dx nx nd ne => ?_⟩
    rw [List.append_nil]
    exact make_go (by rw [RpSs.length rs]; exact hl) w1 rs (Got.later g n1) x dx nx nd ne
theorem pe_vmake {np k : Nat} {C f : Addr} {fd : FuncData} {ps : List Str} {vf : VF} {fa : VA} {x : Str} {e : Expr} {es : List Expr} {p pos : Pos} (M : Mk X.K C f) (F : FnOk X.prog X.w X.K X.mg X.base (L2.CX X.prog X.w) k f fd ps (SpV X.K np vf)) (hr : Room (k + 1) X.A) (hg : Gl X x) (hm : X.mg x = some (.ref C)) (hb : Binds X.K fd ps []) (tk : Takes X W)
    (ha : PA X (e :: es) (LA X.K W fa)) (hn : ∀ s ss m, fa s = some (.ok ss, m) → ss.length + 1 = np) (hdb : (x == ("__debug__" : Str)) = false := by decide) (he : starEach (e :: es) X.env = (false, eval e X.env) :: starEach es X.env := by rfl) (hpl : (backTo pos (starEach es X.env)).any (·.1) = false := by rfl) :
    PE X (.Call (.Name x p) (e :: es) [] pos) (LE X.K W (vMake C vf fa)) := PE.imp (Own.pe_makeS M F hr hg hm hb .nil (fun σ => passAt tk σ) ha hdb he hpl) fun _ _ _ => le_make hn
/-! ### an instance that is never changed again -/
theorem RpF.same' {F F' : Hp} (e : Same F F') {vs : List (Str × V)} {ts : List (Str × T)} (r : RpF K F vs ts) : RpF K F' vs ts := RpF.same e r
theorem freezeU {F : Hp} {A : List Addr} {ρ : List (Option Sl)} {m : List MO} {σ : L2.St} {H : Hp} {i : Nat} {a : Addr} {u : HO} (w : Wd K F A ρ m σ H) (ea : A[i]? = some a) (fa : F a = none) (eh : H a = some u) :
    Nxt F A H (upd F a u) A H ∧ Wd K (upd F a u) A ρ (m.set i .dead) σ H := by
  have s1 : Same F (upd F a u) := same_new fa
  refine ⟨⟨s1, List.prefix_refl _, fun b u' e => ?_, fun _ h => .inl h, fun _ _ e _ => .inr e⟩, w.of s1 (List.prefix_refl _) ⟨fun b u' e => ?_, by rw [List.length_set]; exact w.os.len, w.os.nd, w.os.there, fun j b o h1 h2 => ?_, w.os.gho.trans s1, fun q hq => ⟨(w.os.tab q hq).1, (w.os.tab q hq).2.next s1 (by
    have ne : q.1 ≠ a := fun z => (w.os.tab q hq).1 (z ▸ List.mem_of_getElem? ea)
    rw [upd_ne ne]; exact (w.os.tab q hq).2.1) fun _ z => z⟩⟩⟩
  · by_cases z : b = a
    · subst z; exact .inr (.inr (List.mem_of_getElem? ea))
    · rw [upd_ne z] at e; exact .inl e
  · by_cases z : b = a
    · subst z; rw [upd_same] at e; rw [eh]; exact e
    · rw [upd_ne z] at e; exact w.os.sub b u' e
  · by_cases z : i = j
    · subst z
      have hl : i < m.length := by
        have := (List.getElem?_eq_some_iff.mp h2).1
        rw [List.length_set] at this
        exact this
      rw [List.getElem?_set_self hl] at h2
      cases h2
      trivial
    · rw [List.getElem?_set_ne z] at h2
      have ne : b ≠ a := fun q => by
        subst q
        obtain ⟨l1, e1⟩ := List.getElem?_eq_some_iff.mp ea
        obtain ⟨l2, e2⟩ := List.getElem?_eq_some_iff.mp h1
        exact z ((List.getElem_inj w.os.nd).mp (e1.trans e2.symm))
      exact (w.os.obj j b o h1 h2).next s1 (List.prefix_refl _) (fun _ e => e) fun e => by rw [upd_ne ne]; exact e
end
end Vs
end
section
/-! Vs15: -i, **, xs[::-1], join. -/
namespace Vs
open PySem PySem.Spec PyProof.Rows L2
variable [WW]
section
variable {K : PySem.W.Frag} {W : WX} {X : Cx}
theorem pe_vneg {i : Int} {j : Nat} {p pos : Pos} : PE X (.UnaryOp .USub (.Constant (.int i) j p) pos) (LE X.K W (vC (.int (-i)))) := PE.imp (pe_un un_neg pe_int) fun σ H Q h => ⟨i, rfl, le_c (v := .int (-i)) (t := .int (-i)) (fun _ => .int _) h⟩
def cPow (i j : Int) : Bool := decide (0 ≤ j ∧ j ≤ 1000000 ∧ i.natAbs < 2 ^ 64)
theorem cPow_ok (i j : Int) (h : cPow i j = true) : CPow i j := by
  unfold cPow at h
  have h2 := of_decide_eq_true h
  exact h2
theorem pe_vpow {a b : Expr} {fa fb : VE} {pos : Pos} (ha : PE X a (LE X.K W fa)) (hb : PE X b (LE X.K W fb)) : PE X (.BinOp a .Pow b pos) (LE X.K W (vBin (gIntC cPow fun i j => .int (i ^ j.toNat)) fa fb)) := pe_vop op_pow (ov_intC cPow_ok fun _ _ _ => .int _) ha hb
/-- xs[::-1] -/
def gRev (a : Sl) (m : List MO) : M (List T) := match lsqOf a m with
  | some ts => if ts.length ≤ SZ then rM ts.reverse m else none
  | none => none
def vRev (f : VE) : VN := fun s => bM (f s) gRev
theorem pe_vrev {e : Expr} {f : VE} {k : Nat} {p1 p2 p3 pos : Pos} (he : PE X e (LE X.K W f)) : PE X (.Subscript e (.Slice none none (some (.UnaryOp .USub (.Constant (.int 1) k p1) p2)) p3) pos) (LN X.K W (vRev f)) := PE.imp (pe_revL he) fun σ H Q ⟨F, A, ρ, m, w, g⟩ =>
  ⟨F, A, ρ, m, w, (Got.bind (R1 := rS X.K) g).mono fun x H1 ⟨F1, A1, m1, s, n1, w1, ra, q⟩ => by
    unfold gRev at q
    split at q
    · rename_i ts e
      split at q
      · rename_i hz
        obtain ⟨a, xs, rfl, h1, h2⟩ := lsqOf_at w1.os ra e
        exact ⟨a, xs, rfl, h1, fun p np => new_list n1 q w1 np h2.reverse (by rw [List.length_reverse]; exact hz)⟩
      · exact none_got q
    · exact none_got q⟩
/-! ### sep.join(xs) -/
abbrev rJoin (K : PySem.W.Frag) : V → List V → Hp → VK → Prop := fun x xs H Q => ∃ a p, ∃ ys : List Str, x = .str a ∧ xs = [.ref p] ∧ (SqL K H p (ys.map V.str) ∨ SqT K H p (ys.map V.str)) ∧ (ys.map (·.length)).sum + ys.length * a.length ≤ 16777216 ∧ Q (.str (Txt.join a ys)) H
def gJoin (o : Sl) (ss : List Sl) (m : List MO) : M Sl := match o, ss with
  | .val (.str a), [s] => match (seqOf s m).bind strsOf with
    | some ys => if (ys.map (·.length)).sum + ys.length * a.length ≤ 16777216 then rM (.val (.str (Txt.join a ys))) m else none
    | none => none
  | _, _ => none
end
end Vs
end
section
/-! Vs16: two names at once, join, what the translator names. -/
namespace Vs
open PySem PySem.Spec PyProof.Rows L2
variable [WW]
section
variable {K : PySem.W.Frag} {W : WX} {X : Cx}
theorem hu1 {n : Nat} (h : n + 64 < cLine) : n + 1 < cLine := Nat.lt_of_le_of_lt (Nat.add_le_add_left (by decide) _) h
/-- a, b = x, y -/
def gPar (i j : Nat) (ρ : List (Option Sl)) (ss : List Sl) (m : List MO) : R := match ss with
  | [a, b] => some (.nx, ⟨(ρ.set i (some a)).set j (some b), m⟩)
  | _ => none
def vPar (i j : Nat) (f : VA) : VS := fun s => bS s.ρ (f s) (gPar i j s.ρ)
theorem ps_vpar {i j : Nat} {x y : Str} {a b : Expr} {f : VA} {px py pt : Pos} {kt k2 pt2} {pos : Pos} (hc : X.calm = true) (hN : X.N.Nodup) (hi : X.N[i]? = some x) (hj : X.N[j]? = some y) (hij : i ≠ j)
    (hx : X.env.scope.names.lookup x = some .local) (hy : X.env.scope.names.lookup y = some .local) (ha : PA X [a, b] (LA X.K W f))
    (hw : swappedStores [.Tuple [.Name x px, .Name y py] kt pt] (.Tuple [a, b] k2 pt2) X.env = pure (some [x, y]))
    (hs : swapsWithSole [.Tuple [.Name x px, .Name y py] kt pt] (.Tuple [a, b] k2 pt2) pos.line X.env = pure false := by rfl) :
    PS X (.Assign [.Tuple [.Name x px, .Name y py] kt pt] (.Tuple [a, b] k2 pt2) pos) (LS X.K W (vPar i j f)) := PS.imp (ps_par hc hN hi hj hij hx hy ha hw hs) fun D σ H ⟨F, A, ρ, m, w, r⟩ =>
  ⟨F, A, ρ, m, w, (Ran.bS (fun F' A' _ vs ss => RpSs X.K F' A' vs ss) r).mono fun vs H1 ⟨F1, A1, m1, ss, n1, w1, rs, q⟩ => by
    unfold gPar at q
    split at q
    · obtain ⟨v, u, rfl, rv, ru⟩ := rpSs2 rs
      exact ⟨v, u, rfl, q.nx ((w1.set rv).set ru)⟩
    · exact none_ran q⟩
/-- name = [.. for ..] -/
theorem ls_set {i : Nat} {f : VE} {D : Ends} {σ : L2.St} {H : Hp} (h : LS K W (vSet i f) D σ H) : LE K W f σ H fun v H1 => D.nx (σ.set i (some v)) H1 := by
  obtain ⟨F, A, ρ, m, w, r⟩ := h
  exact ⟨F, A, ρ, m, w, (Ran.bS (rS K) r).mono fun b H1 ⟨F1, A1, m1, a, n, w1, ra, q⟩ => q.nx (w1.set ra)⟩
theorem ps_vsetLc {i : Nat} {y : Str} {py : Pos} {elt tg iter : Expr} {ifs : List Expr} {scope : Scope} (own : List (Str × Nat)) {pos spos : Pos} {it : VI} {L : List Nat} {g : VG} {tt : VT} {te : VE} (hL : ∀ i ∈ L, i ∈ own.map (·.2)) (hc : X.calm = true) (hN : X.N.Nodup) (hy : X.N[i]? = some y) (hyl : X.env.scope.names.lookup y = some .local)
    (hsw : swapsWith (.ListComp elt [⟨tg, iter, ifs, 0⟩] scope pos) (some (.Name y py)) spos.line X.env = pure true) (hi : PI X tg iter (LI X.K W it)) (ok : BlkOk X.N X.env.scope scope own)
    (hg : ∀ (s : Shared) (H : Hp) (C : Addr) (cl : List (Str × Addr)) (fp : List Addr), PG (X.blk s H scope (compEnvC scope cl C X.env) fp) tg (LG X.K L g)) (ht : ∀ (s : Shared) (H : Hp) (C : Addr) (cl : List (Str × Addr)) (fp : List Addr), PTs (X.blk s H scope (compEnvC scope cl C X.env) fp) ifs (LT X.K W0 tt))
    (he : ∀ (s : Shared) (H : Hp) (C : Addr) (cl : List (Str × Addr)) (fp : List Addr), PE (X.blk s H scope (compEnvC scope cl C X.env) fp) elt (LE X.K W0 te)) (hs : ∀ x, foldedSetIterable iter X.env x = pure x := by intro _; rfl) :
    PS X (.Assign [.Name y py] (.ListComp elt [⟨tg, iter, ifs, 0⟩] scope pos) spos) (LS X.K W (vSet i (vVal (vComp (own.map (·.2)) it g tt te)))) := PS.imp (ps_setLc hc hN hy hyl hsw hi ok hg ht he hs) fun D σ H h => le_comp hL (le_val (ls_set h))
/-- a method of a text -/
def isStr (o : Sl) : Bool := match o with
  | .val (.str _) => true
  | _ => false
theorem mv_join : MetV K (rJoin K) gJoin := by
  intro W F A ρ m σ H x xs o ss Q w ro rs g
  unfold gJoin at g
  split at g
  · split at g
    · rename_i ys e
      split at g
      · rename_i hz
        obtain ⟨ts, e1, e2⟩ := bind_some e
        cases ro
        obtain ⟨y, rfl, ry⟩ := rpSs1 rs
        obtain ⟨p, vs, rfl, h1, h2⟩ := seqOf_at w.os ry e1
        obtain rfl := strsOf_rp h2 e2
        exact ⟨_, p, ys, rfl, rfl, h1, hz, g.now w (.str _)⟩
      · exact none_got g
    · exact none_got g
  · exact none_got g
def vM1 (g : Sl → List Sl → List MO → M Sl) (fo fe : VE) : VE := fun s => bM (fo s) fun o m1 => if isStr o = true then bM (fe ⟨s.ρ, m1⟩) fun a m2 => g o [a] m2 else none
theorem le_m1 {r : V → List V → Hp → VK → Prop} {g : Sl → List Sl → List MO → M Sl} {fo fe : VE} (hv : MetV K r g) {σ : L2.St} {H : Hp} {Q : VK} (h : LE K W (vM1 g fo fe) σ H Q) : tM1 r (LE K W fo) (LE K W fe) σ H Q := by
  obtain ⟨F, A, ρ, m, w, got⟩ := h
  refine ⟨F, A, ρ, m, w, (Got.bind (R1 := rS K) got).mono fun x H1 ⟨F1, A1, m1, o, n1, w1, ro, q⟩ => ?_⟩
  by_cases e : isStr o = true
  · rw [if_pos e] at q
    unfold isStr at e
    split at e
    · refine ⟨?_, F1, A1, ρ, m1, w1, (Got.bind (R1 := rS K) q).mono fun y H2 ⟨F2, A2, m2, s, n2, w2, rs, g2⟩ => hv W F2 A2 ρ m2 σ H2 _ [y] _ [s] Q w2 (ro.next n2.sub n2.pre) (.cons rs .nil) g2⟩
      cases ro
      exact ⟨_, rfl⟩
    · cases e
  · rw [if_neg e] at q; exact none_got q
theorem pe_vjoin {o e : Expr} {fo fe : VE} {apos pos : Pos} (ho : PE X o (LE X.K W fo)) (he : PE X e (LE X.K W fe)) (hs : starEach [e] X.env = [(false, eval e X.env)] := by rfl) (hbase : attributeBase o "join" X.env (eval o X.env) = eval o X.env := by rfl) (hline : (apos.endLine == pos.line) = true := by rfl) :
    PE X (.Call (.Attribute o "join" apos) [e] [] pos) (LE X.K W (vM1 gJoin fo fe)) := PE.imp (pe_join ho he hs hbase hline) fun _ _ _ => le_m1 mv_join
end
abbrev dEq : Sl → Sl → List MO → M Sl := gDat PyData.eqv
abbrev dNe : Sl → Sl → List MO → M Sl := gDat fun d e => !PyData.eqv d e
abbrev dDiv : Sl → Sl → List MO → M Sl := gIntC cDiv fun i j => .int (i / j)
abbrev dMod : Sl → Sl → List MO → M Sl := gIntC cPos fun i j => .int (i % j)
abbrev dMul : Sl → Sl → List MO → M Sl := gIntC cMul fun i j => .int (i * j)
abbrev dPow : Sl → Sl → List MO → M Sl := gIntC cPow fun i j => .int (i ^ j.toNat)
abbrev dSub : Sl → Sl → List MO → M Sl := gInt fun i j => .int (i - j)
abbrev dLt : Sl → Sl → List MO → M Sl := gInt fun i j => .bl (decide (i < j))
abbrev dGt : Sl → Sl → List MO → M Sl := gInt fun i j => .bl (decide (j < i))
abbrev dGe : Sl → Sl → List MO → M Sl := gInt fun i j => .bl (decide (j ≤ i))
/-- a def of the module -/
structure DV (P : Program) (w : World) (K : PySem.W.Frag) (mg : Str → Option Value) (base : Heap) (x : Str) (k np : Nat) (vf : VF) where
  a : Addr
  fd : FuncData
  ps : List Str
  m : mg x = some (.ref a)
  kp : PySem.W.keepIn K (.ref a) = true
  g : FnOk P w K mg base (L2.CX P w) k a fd ps (SpV K np vf)
  b : Binds K fd ps []
structure Bn (mg : Str → Option Value) : Prop where
  int_ : mg "int" = none
  abs_ : mg "abs" = none
  len_ : mg "len" = none
  range_ : mg "range" = none
  list_ : mg "list" = none
  tuple_ : mg "tuple" = none
  str_ : mg "str" = none
  max_ : mg "max" = none
  min_ : mg "min" = none
  sorted_ : mg "sorted" = none
  enumerate_ : mg "enumerate" = none
  zip_ : mg "zip" = none
  isinstance_ : mg "isinstance" = none
  bool_ : mg "bool" = none
  any_ : mg "any" = none
  all_ : mg "all" = none
  sum_ : mg "sum" = none
end Vs
end
section
/-! Vs17: and, or, not as values; isinstance. -/
namespace Vs
open PySem PySem.Spec PyProof.Rows L2
variable [WW]
section
variable {K : PySem.W.Frag} {W : WX} {X : Cx} {a b : Expr} {rest : List Expr} {fa fb : VE} {pos : Pos}
def gAndV (fb : VE) (ρ : List (Option Sl)) (x : Sl) (m : List MO) : M Sl := match x with
  | .val (.bl true) => fb ⟨ρ, m⟩
  | .val (.bl false) => rM (.val (.bl false)) m
  | _ => none
def vAndV (fa fb : VE) : VE := fun s => bM (fa s) (gAndV fb s.ρ)
theorem pe_vandV (ha : PE X a (LE K W fa)) (hb : PE X (.BoolOp .And (b :: rest) pos) (LE K W fb)) : PE X (.BoolOp .And (a :: b :: rest) pos) (LE K W (vAndV fa fb)) := PE.imp (pe_and ha hb) fun σ H Q ⟨F, A, ρ, m, w, g⟩ =>
  ⟨F, A, ρ, m, w, (Got.bind (R1 := rS K) g).mono fun x H1 ⟨F1, A1, m1, s, n1, w1, rx, q⟩ => by
    unfold gAndV at q
    split at q
    · cases rx
      exact ⟨true, rfl, by rw [if_pos rfl]; exact ⟨F1, A1, ρ, m1, w1, q⟩⟩
    · cases rx
      exact ⟨false, rfl, by rw [if_neg Bool.false_ne_true]; exact q.now w1 (.bl false)⟩
    · exact none_got q⟩
def gOrV (fb : VE) (ρ : List (Option Sl)) (x : Sl) (m : List MO) : M Sl := match x with
  | .val (.bl true) => rM (.val (.bl true)) m
  | .val (.bl false) => fb ⟨ρ, m⟩
  | _ => none
def vOrV (fa fb : VE) : VE := fun s => bM (fa s) (gOrV fb s.ρ)
theorem pe_vorV (ha : PE X a (LE K W fa)) (hb : PE X (.BoolOp .Or (b :: rest) pos) (LE K W fb)) : PE X (.BoolOp .Or (a :: b :: rest) pos) (LE K W (vOrV fa fb)) := PE.imp (pe_or ha hb) fun σ H Q ⟨F, A, ρ, m, w, g⟩ =>
  ⟨F, A, ρ, m, w, (Got.bind (R1 := rS K) g).mono fun x H1 ⟨F1, A1, m1, s, n1, w1, rx, q⟩ => by
    unfold gOrV at q
    split at q
    · cases rx
      exact ⟨true, rfl, by rw [if_pos rfl]; exact q.now w1 (.bl true)⟩
    · cases rx
      exact ⟨false, rfl, by rw [if_neg Bool.false_ne_true]; exact ⟨F1, A1, ρ, m1, w1, q⟩⟩
    · exact none_got q⟩
theorem pe_vone {op} (ha : PE X a (LE K W fa)) : PE X (.BoolOp op [a] pos) (LE K W fa) := pe_one ha
def gNotV (x : Sl) (m : List MO) : M Sl := match x with
  | .val (.bl c) => rM (.val (.bl (!c))) m
  | _ => none
def vNotV (fa : VE) : VE := fun s => bM (fa s) gNotV
theorem pe_vnotV (ha : PE X a (LE K W fa)) : PE X (.UnaryOp .Not a pos) (LE K W (vNotV fa)) := PE.imp (pe_not ha) fun σ H Q ⟨F, A, ρ, m, w, g⟩ =>
  ⟨F, A, ρ, m, w, (Got.bind (R1 := rS K) g).mono fun x H1 ⟨F1, A1, m1, s, n1, w1, rx, q⟩ => by
    unfold gNotV at q
    split at q
    · cases rx
      exact ⟨_, rfl, q.now w1 (.bl _)⟩
    · exact none_got q⟩
/-! ### isinstance -/
inductive Ty where
  | non | bl | int | str | lst | tup
  | cls (C : Addr)
def tyV : Ty → Value
  | .non => .type "NoneType"
  | .bl => .type "bool"
  | .int => .type "int"
  | .str => .type "str"
  | .lst => .type "list"
  | .tup => .type "tuple"
  | .cls C => .ref C
def tyS (s : Sl) (m : List MO) : Option Ty := match s with
  | .val .non => some .non
  | .val (.bl _) => some .bl
  | .val (.int _) => some .int
  | .val (.str _) => some .str
  | .val (.lst _) => some .lst
  | .val (.seq _) => some .lst
  | .val (.tup _) => some .tup
  | .val (.ins C _) => some (.cls C)
  | .own i => match m[i]? with
    | some (.lst _) => some .lst
    | some (.ins C _) => some (.cls C)
    | _ => none
  | _ => none
/-- instances of C may be asked for their class -/
def InsTy (K : PySem.W.Frag) (C : Addr) : Prop := ∀ (H : Hp) (a dx : Addr) (fs : List (Str × V)), H a = some (.ins C dx fs) → TyX K H (.ref a) (.ref C)
/-- what is asked: the classes us; the answers tab -/
structure IsT (K : PySem.W.Frag) (us : List Value) (tab : Ty → Option Bool) : Prop where
  ans : ∀ y b, tab y = some b → PySem.W.kitAny K (tyV y) us = some b
  ins : ∀ C b, tab (.cls C) = some b → InsTy K C
theorem sqt_ty {H : Hp} {a : Addr} {xs : List V} (h : SqT K H a xs) : TyX K H (.ref a) (.type "tuple") := by
  rcases h with (h | ⟨o, h⟩) | ⟨its, h⟩
  · exact .base (.tup h)
  · exact .fTuple h
  · obtain ⟨_, o, e, c, _⟩ := h
    exact .kTuple e c
theorem sql_ty {H : Hp} {a : Addr} {xs : List V} (h : SqL K H a xs) : TyX K H (.ref a) (.type "list") := by
  rcases h with (h | ⟨o, h⟩) | ⟨its, h⟩
  · exact .base (.lst h)
  · exact .base (.frz h)
  · obtain ⟨_, o, e, c, _⟩ := h
    exact .kList e c
theorem tyS_at {F : Hp} {A : List Addr} {m : List MO} {H : Hp} {s : Sl} {x : V} {y : Ty} (o : Objs K F A m H) (r : RpS K F A x s) (e : tyS s m = some y) (hi : ∀ C, y = .cls C → InsTy K C) : TyX K H x (tyV y) := by
  unfold tyS at e
  split at e
  · cases e; cases r; exact .base .non
  · cases e; cases r; exact .base (.bl _)
  · cases e; cases r; exact .base (.int _)
  · cases e; cases r; exact .base (.str _)
  · cases e
    cases r with
    | lst h q => exact .base (.lst (o.sub _ _ h))
  · cases e
    cases r with
    | seq h q => exact sql_ty (o.sub.seq h)
  · cases e
    cases r with
    | tup h q => exact sqt_ty (sqT_same o.sub h)
  · cases e
    cases r with
    | ins h q => exact hi _ rfl _ _ _ _ (o.sub _ _ h)
  · split at e
    · rename_i i _ _ em
      cases e
      obtain ⟨a, ea, rfl⟩ := r
      obtain ⟨_, xs, h1, h2⟩ := o.obj i a _ ea em
      exact .base (.lst h1)
    · rename_i i _ C _ em
      cases e
      obtain ⟨a, ea, rfl⟩ := r
      obtain ⟨_, dx, vs, h1, h2⟩ := o.obj i a _ ea em
      exact hi _ rfl _ _ _ _ h1
    · cases e
  · cases e
def gIsi (tab : Ty → Option Bool) (s : Sl) (m : List MO) : M Sl := match tyS s m with
  | some y => match tab y with
    | some b => rM (.val (.bl b)) m
    | none => none
  | none => none
def vIsi (tab : Ty → Option Bool) (f : VE) : VE := fun s => bM (f s) (gIsi tab)
theorem isi_go {us : List Value} {tab : Ty → Option Bool} {F : Hp} {A : List Addr} {ρ : List (Option Sl)} {m : List MO} {σ : L2.St} {H : Hp} {x : V} {s : Sl} {Q : VK} (hT : IsT K us tab) (w : Wd K F A ρ m σ H) (rx : RpS K F A x s) (g : Got K W σ ρ F A H (rS K) (gIsi tab s m) Q) :
    ∃ t b, TyX K H x t ∧ PySem.W.kitAny K t us = some b ∧ Got K W σ ρ F A H (rS K) (rM (.val (.bl b)) m) Q := by
  unfold gIsi at g
  split at g
  · rename_i y ey
    split at g
    · rename_i b eb
      exact ⟨tyV y, b, tyS_at w.os rx ey (fun C e => hT.ins C b (by rw [← e]; exact eb)), hT.ans y b eb, g⟩
    · exact none_got g
  · exact none_got g
/-- isinstance(x, c), c a class by its name -/
theorem pe_visi {c : Str} {p p2 pos : Pos} {e : Expr} {f : VE} {v : V} {u : Value} (tab : Ty → Option Bool) (hT : IsT X.K [u] tab) (hg : Gl X "isinstance") (hm : X.mg "isinstance" = none) (he : PE X e (LE X.K W f)) (hc : PE X (.Name c p2) (tC v)) (k : ClsV v u)
    (hs1 : starEach [e, .Name c p2] X.env = (false, eval e X.env) :: starEach [.Name c p2] X.env := by rfl) (hpl : (backTo pos (starEach [.Name c p2] X.env)).any (·.1) = false := by rfl) (hs2 : starEach [.Name c p2] X.env = (false, eval (.Name c p2) X.env) :: starEach [] X.env := by rfl) :
    PE X (.Call (.Name "isinstance" p) [e, .Name c p2] [] pos) (LE X.K W (vIsi tab f)) := PE.imp (pe_callB call_isi hg hm (by decide +kernel) (pa_cons he (pa_cons hc pa_nil hs2) hs1) (by decide) (by decide) hs1 hpl) fun σ H Q ⟨F, A, ρ, m, w, g⟩ =>
  ⟨F, A, ρ, m, w, (Got.bind (R1 := rS X.K) g).mono fun x H1 ⟨F1, A1, m1, s, n1, w1, rx, q⟩ => by
    obtain ⟨t, b, h1, h2, h3⟩ := isi_go hT w1 rx q
    refine ⟨x, v, t, u, b, rfl, k, h1, ?_, h3.now w1 (.bl b)⟩
    unfold PySem.W.kitAny at h2
    split at h2
    · rename_i e1; rw [← h2]; exact e1
    · rename_i e1; rw [e1, ← h2]; rfl
    · cases h2⟩
end
end Vs
end
section
/-! Vs18: own errors with one field, raised. -/
namespace Vs
open PySem PySem.Spec PyProof.Rows L2
variable [WW]
/-- what an error's __init__ does: its argument becomes the field fld -/
def spE1 (K : PySem.W.Frag) (C : Addr) (fld : Str) : Sp := fun vs H Q _ => ∃ (a : Addr) (v : V), vs = [.ref a, v] ∧ OexC K C ∧ PySem.W.findIn K (.ref C) fld = some none ∧ H a = some (exo a C none) ∧
  ∀ dx, H dx = none → dx ≠ a → Q .non (upd (upd H dx (exd dx [(fld, v)])) a (exo a C (some dx)))
/-- an own error, as it is made -/
structure EV (P : Program) (w : World) (K : PySem.W.Frag) (mg : Str → Option Value) (base : Heap) (x fld : Str) (C : Addr) where
  fI : Addr
  fd : FuncData
  ps : List Str
  ox : OexC K C
  iC : PySem.W.findIn K (.ref C) "__init__" = some (some (.ref fI))
  tI : PySem.W.typeIn K (.ref fI) = some (.type "function")
  g : FnOk P w K mg base (fun _ _ _ _ _ _ => False) 1 fI fd ps (spE1 K C fld)
  b : Binds K fd ps []
  m : mg x = some (.ref C)
  no : PySem.W.findIn K (.ref C) fld = some none
section
variable {P : Program} {w : World} {K : PySem.W.Frag} {mg : Str → Option Value} {base : Heap}
end
section
variable {K : PySem.W.Frag} {W : WX} {X : Cx}
end
end Vs
end
section
/-! Vs19: str(own), ==, != of own instances. -/
namespace Vs
open PySem PySem.Spec PyProof.Rows L2
variable [WW]
section
variable {K : PySem.W.Frag} {W : WX} {X : Cx}
/-- the def's answer, where it is a text; where it is a bool -/
def strOf (r : M Sl) : M Sl := match r with
  | some (.ok (.val (.str y)), m) => rM (.val (.str y)) m
  | _ => none
theorem got_str {σ : L2.St} {ρ : List (Option Sl)} {F : Hp} {A : List Addr} {H : Hp} {r : M Sl} {Q : VK} (g : Got K W σ ρ F A H (rS K) (strOf r) Q) : Got K W0 σ ρ F A H (rS K) r fun z H' => ∃ y, z = .str y ∧ Q z H' := by
  unfold strOf at g
  split at g
  · exact ⟨_, _, rfl, fun F' A' b H' n w' rr => by cases rr; exact ⟨_, rfl, g.fin n w' (.str _)⟩⟩
  · exact none_got g
abbrev spR (K : PySem.W.Frag) (np : Nat) (vf : VF) : Sp := fun vs H Q E => SpV K np vf (vs ++ []) H Q E
def gStrO (ok : Addr → Bool) (vf : VF) : List Sl → List MO → M Sl
  | [s], m => match insOf s m with
    | some (C, _) => if ok C = true then strOf (callM vf [s] m) else none
    | none => none
  | _, _ => none
theorem cv_strO {gs : Addr} {ok : Addr → Bool} {vf : VF} (hok : ∀ C, ok C = true → ∃ ge, Own.OwnC K C gs ge) : CallV K (Own.rStrOwn K gs (spR K 1 vf) E0) (gStrO ok vf) := by
  intro W F A ρ m σ H xs ss Q w rs g
  unfold gStrO at g
  split at g
  · rename_i s
    split at g
    · rename_i C ns e
      split at g
      · rename_i hc
        obtain ⟨x, rfl, rx⟩ := rpSs1 rs
        obtain ⟨a, dx, vs, rfl, ea, _⟩ := insOf_at w.os rx e
        obtain ⟨ge, oc⟩ := hok C hc
        exact ⟨a, C, dx, vs, ge, rfl, ea, oc, call_got (W := W0) rfl w (.cons rx .nil) (got_str g)⟩
      · exact none_got g
    · exact none_got g
  · exact none_got g
section
variable {n : Nat} {gs ge : Addr} {fd : FuncData} {ps : List Str} {vf : VF} {a b : Expr} {fa fb : VE} {pos : Pos}
theorem pe_vstrO {f : VA} {e : Expr} {es : List Expr} {x : Str} {p : Pos} {ok : Addr → Bool} (F : FnOk X.prog X.w X.K X.mg X.base (L2.CX X.prog X.w) n gs fd ps (SpV X.K 1 vf)) (hb : Binds X.K fd ps []) (hok : ∀ C, ok C = true → ∃ ge, Own.OwnC X.K C gs ge) (hr : Room (n + 2) X.A) (hg : Gl X x) (hm : X.mg x = none) (hv : bootBuiltins x = some (.type "str")) (ha : PA X (e :: es) (LA X.K W f)) (hn : x ≠ "__name__" := by decide) (hdb : (x == ("__debug__" : Str)) = false := by decide)
    (he : starEach (e :: es) X.env = (false, eval e X.env) :: starEach es X.env := by rfl) (hpl : (backTo pos (starEach es X.env)).any (·.1) = false := by rfl) : PE X (.Call (.Name x p) (e :: es) [] pos) (LE X.K W (vB (gStrO ok vf) f)) :=
  pe_vcallTy (cv_strO hok) (Own.call_strOwn (F.raw hb .nil) hr passL) hg hm hv ha hn hdb he hpl
end
end
end Vs
end
section
/-! Vs20: comprehensions of two clauses. -/
namespace Vs
open PySem PySem.Spec PyProof.Rows L2
variable [WW]
section
variable {K : PySem.W.Frag} {W : WX} {X : Cx}
def vCollK (g : VG) (tt : VT) (te : VE) (ρ : List (Option Sl)) : List T → List MO → List T → (List MO → List T → M (List T)) → M (List T)
  | [], m, acc, k => k m acc
  | t :: r, m, acc, k => match g t ρ with
    | none => none
    | some ρ1 => match tt ⟨ρ1, m⟩ with
      | some (.ok true, m1) => match te ⟨ρ1, m1⟩ with
        | some (.ok (.val u), m2) => if acc.length < SZ then vCollK g tt te ρ r m2 (acc ++ [u]) k else none
        | _ => none
      | some (.ok false, m1) => vCollK g tt te ρ r m1 acc k
      | _ => none
def vColl2 (g : VG) (tt : VT) (it1 : VI) (g1 : VG) (tt1 : VT) (te : VE) (vs1 : List Nat) (ρ : List (Option Sl)) : List T → List MO → List T → M (List T)
  | [], m, acc => rM acc m
  | t :: r, m, acc => match g t ρ with
    | none => none
    | some ρ1 => match tt ⟨ρ1, m⟩ with
      | some (.ok true, m1) => match it1 ⟨ρ1, m1⟩ with
        | some (.ok us, m2) => vCollK g1 tt1 te (wipeS ρ1 vs1) us m2 acc fun m3 acc3 => vColl2 g tt it1 g1 tt1 te vs1 ρ r m3 acc3
        | _ => none
      | some (.ok false, m1) => vColl2 g tt it1 g1 tt1 te vs1 ρ r m1 acc
      | _ => none
def vComp2 (vs vs1 : List Nat) (it : VI) (g : VG) (tt : VT) (it1 : VI) (g1 : VG) (tt1 : VT) (te : VE) : VN := fun s => bM (it s) fun ts m => vColl2 g tt it1 g1 tt1 te vs1 (wipeS s.ρ vs) ts m []
theorem offD {Fa Fb : Hp} {Aa Ab : List Addr} {Ha Hb : Hp} {D : Addr} {xs : List V} (n : Nxt Fa Aa Ha Fb Ab Hb) (f : Fa D = none) (a : D ∉ Aa) (h : Ha D = some (.lst xs)) : Fb D = none ∧ D ∉ Ab ∧ Hb D = some (.lst xs) := by
  refine ⟨?_, fun z => ?_, n.keep D _ h a⟩
  · cases q : Fb D with
    | none => rfl
    | some u =>
      rcases n.fresh D u q with y | y | y
      · rw [f] at y; cases y
      · rw [h] at y; cases y
      · exact absurd y a
  · rcases n.news D z with y | y
    · exact a y
    · rw [h] at y; cases y
/-- the state of a comprehension in the making -/
def Mid (K : PySem.W.Frag) (σ : L2.St) (ρ : List (Option Sl)) (F : Hp) (A : List Addr) (H : Hp) (F1 : Hp) (A1 : List Addr) (H1 : Hp) (D : Addr) (Φ : Hp → List Addr → List MO → List T → Prop) (G : Hp) : Prop :=
  ∃ F' A' m' acc xs, Nxt F A H F' A' G ∧ Nxt F1 A1 H1 F' A' G ∧ F' D = none ∧ D ∉ A' ∧ Wd K F' A' ρ m' σ G ∧ G D = some (.lst xs) ∧ RpL K F' xs acc ∧ acc.length ≤ SZ ∧ Φ F' A' m' acc
theorem le_comp2 {vs vs1 L L1 : List Nat} (hL : ∀ i ∈ L, i ∈ vs) (hL1 : ∀ i ∈ L1, i ∈ vs1) {it it1 : VI} {g g1 : VG} {tt tt1 : VT} {te : VE} {σ : L2.St} {H : Hp} {Q : VK} (h : LN K W (vComp2 vs vs1 it g tt it1 g1 tt1 te) σ H Q) :
    tLc2 (LI K W it) (LG K L g) (LT K W0 tt) (LI K W0 it1) (LG K L1 g1) (LT K W0 tt1) (LE K W0 te) vs vs1 σ H Q := by
  obtain ⟨F, A, ρ, m, w, got⟩ := h
  refine ⟨F, A, ρ, m, w, ?_⟩
  unfold vComp2 at got
  match e : it ⟨ρ, m⟩, got with
  | none, got => exact none_got (show Got K W σ ρ F A H _ none Q from got)
  | some (.ex C fs, m1), got =>
    obtain ⟨_, _, z, got⟩ := got
    cases z
    exact ⟨_, _, rfl, got⟩
  | some (.ok ts, m1), got =>
  have got : Got K W σ ρ F A H (relN K H) (vColl2 g tt it1 g1 tt1 te vs1 (wipeS ρ vs) ts m1 []) Q := got
  refine ⟨_, _, rfl, fun F1 A1 J H1 n1 w1 wk D hD => ?_⟩
  have hD0 : H D = none := n1.back w1.os hD
  refine ⟨fun i k G => Mid K σ ρ F A H F1 A1 H1 D (fun _ _ m' acc => i ≤ ts.length ∧ k = ts.length - i ∧ Got K W σ ρ F A H (relN K H) (vColl2 g tt it1 g1 tt1 te vs1 (wipeS ρ vs) (ts.drop i) m' acc) Q) G,
    ⟨ts.length, F1, A1, m1, [], [], n1.offD hD0, Nxt.offD Nxt.refl hD, w1.os.fnone hD, w1.os.notin hD, w1.of (Same.refl _) (List.prefix_refl _) (w1.os.keep hD), upd_same, .nil, Nat.zero_le _, Nat.zero_le _, rfl, got⟩, ?_⟩
  rintro i k G ⟨F', A', m', acc, xs, n', n1', fD, nD, w', eD, racc, hacc, hi, rfl, q'⟩
  have wk' := wk F' A' G m' n1'.sub w'.os i
  by_cases e : i < ts.length
  · have et : ts[i]? = some ts[i] := List.getElem?_eq_getElem e
    have ed : ts.drop i = ts[i] :: ts.drop (i + 1) := List.drop_eq_getElem_cons e
    obtain ⟨go, yl⟩ := wk'.1 _ et
    refine .inr ⟨go, Mid K σ ρ F A H F1 A1 H1 D fun _ _ m' acc => Got K W σ ρ F A H (relN K H) (vColl2 g tt it1 g1 tt1 te vs1 (wipeS ρ vs) (ts.drop (i + 1)) m' acc) Q,
      fun G2 ⟨F2, A2, m2, acc2, xs2, z1, z2, z3, z4, z5, z6, z7, z8, z9⟩ => ⟨ts.length - (i + 1), by omega, F2, A2, m2, acc2, xs2, z1, z2, z3, z4, z5, z6, z7, z8, e, rfl, z9⟩, fun x G3 y => ?_⟩
    obtain ⟨F3, n3, o3, rx⟩ := yl x G3 y
    rw [ed] at q'
    unfold vColl2 at q'
    have w3 : Wd K F3 A' ρ m' σ G3 := w'.of n3.sub (List.prefix_refl _) o3
    obtain ⟨fD3, nD3, eD3⟩ := offD n3 fD nD eD
    match eg : g ts[i] (wipeS ρ vs), q' with
    | none, q' => simp only [eg] at q'; exact none_got q'
    | some ρ1, q' =>
      simp only [eg] at q'
      refine ⟨F3, A', _, m', _, ρ1, wd_wipe w3 vs, rx, eg, fun σ2 w4 sam => ⟨wipe_sam hL sam, F3, A', ρ1, m', w4, ?_⟩⟩
      match eb : tt ⟨ρ1, m'⟩, q' with
      | none, q' => simp only [eb] at q'; exact none_got q'
      | some (.ex C fs, m2), q' => simp only [eb] at q'; exact none_got q'
      | some (.ok false, m2), q' =>
        simp only [eb] at q'
        refine ⟨_, _, rfl, fun F4 A4 b H4 n4 w5 rb => ?_⟩
        cases rb
        obtain ⟨fD4, nD4, eD4⟩ := offD n4 fD3 nD3 eD3
        rw [if_neg Bool.false_ne_true]
        have n34 := n3.trans n4
        exact ⟨F4, A4, m2, acc, xs, n'.trans n34, n1'.trans n34, fD4, nD4, w'.of n34.sub n34.pre w5.os, eD4, racc.same n34.sub, hacc, q'⟩
      | some (.ok true, m2), q' =>
        simp only [eb] at q'
        refine ⟨_, _, rfl, fun F4 A4 b H4 n4 w5 rb => ?_⟩
        cases rb
        obtain ⟨fD4, nD4, eD4⟩ := offD n4 fD3 nD3 eD3
        rw [if_pos rfl]
        refine ⟨F4, A4, ρ1, m2, w5, ?_⟩
        match ei1 : it1 ⟨ρ1, m2⟩, q' with
        | none, q' => simp only [ei1] at q'; exact none_got q'
        | some (.ex C fs, m3), q' => simp only [ei1] at q'; exact none_got q'
        | some (.ok us, m3), q' =>
          simp only [ei1] at q'
          refine ⟨_, _, rfl, fun Fb Ab J1 Hb nb wb wk1 => ?_⟩
          obtain ⟨fDb, nDb, eDb⟩ := offD nb fD4 nD4 eD4
          have n3b := (n3.trans n4).trans nb
          refine ⟨fun j k G => Mid K σ ρ F A H F1 A1 H1 D (fun F' A' m' acc => Same Fb F' ∧ Wd K F' A' ρ1 m' σ2 G ∧ j ≤ us.length ∧ k = us.length - j ∧ Got K W σ ρ F A H (relN K H) (vCollK g1 tt1 te (wipeS ρ1 vs1) (us.drop j) m' acc fun m3 acc3 => vColl2 g tt it1 g1 tt1 te vs1 (wipeS ρ vs) (ts.drop (i + 1)) m3 acc3) Q) G,
            ⟨us.length, Fb, Ab, m3, acc, xs, n'.trans n3b, n1'.trans n3b, fDb, nDb, w'.of n3b.sub n3b.pre wb.os, eDb, racc.same n3b.sub, hacc, Same.refl _, wb, Nat.zero_le _, rfl, q'⟩, ?_⟩
          rintro j k G5 ⟨F5, A5, m5, acc5, xs5, k1, k2, k3, k4, k5, k6, k7, k8, k9, k10, hj, rfl, q5⟩
          have wk5 := wk1 F5 A5 G5 m5 k9 k5.os j
          by_cases e5 : j < us.length
          · have et5 : us[j]? = some us[j] := List.getElem?_eq_getElem e5
            have ed5 : us.drop j = us[j] :: us.drop (j + 1) := List.drop_eq_getElem_cons e5
            obtain ⟨go5, yl5⟩ := wk5.1 _ et5
            refine .inr ⟨go5, fun G => Mid K σ ρ F A H F1 A1 H1 D (fun F' A' m' acc => Same Fb F' ∧ Wd K F' A' ρ1 m' σ2 G ∧ Got K W σ ρ F A H (relN K H) (vCollK g1 tt1 te (wipeS ρ1 vs1) (us.drop (j + 1)) m' acc fun m3 acc3 => vColl2 g tt it1 g1 tt1 te vs1 (wipeS ρ vs) (ts.drop (i + 1)) m3 acc3) Q) G,
              fun G2 ⟨F2, A2, m2, acc2, xs2, z1, z2, z3, z4, z5, z6, z7, z8, z9, z10, z11⟩ => ⟨us.length - (j + 1), by omega, F2, A2, m2, acc2, xs2, z1, z2, z3, z4, z5, z6, z7, z8, z9, z10, e5, rfl, z11⟩, fun x6 G6 y6 => ?_⟩
            obtain ⟨F6, n6, o6, rx6⟩ := yl5 x6 G6 y6
            rw [ed5] at q5
            unfold vCollK at q5
            obtain ⟨fD6, nD6, eD6⟩ := offD n6 k3 k4 k6
            have w6 : Wd K F6 A5 ρ1 m5 σ2 G6 := k10.of n6.sub (List.prefix_refl _) o6
            match eg6 : g1 us[j] (wipeS ρ1 vs1), q5 with
            | none, q5 => simp only [eg6] at q5; exact none_got q5
            | some ρ2, q5 =>
              simp only [eg6] at q5
              refine ⟨F6, A5, _, m5, _, ρ2, wd_wipe w6 vs1, rx6, eg6, fun σ3 w7 sam7 => ⟨wipe_sam hL1 sam7, F6, A5, ρ2, m5, w7, ?_⟩⟩
              match eb7 : tt1 ⟨ρ2, m5⟩, q5 with
              | none, q5 => simp only [eb7] at q5; exact none_got q5
              | some (.ex C fs, m8), q5 => simp only [eb7] at q5; exact none_got q5
              | some (.ok false, m8), q5 =>
                simp only [eb7] at q5
                refine ⟨_, _, rfl, fun F8 A8 b H8 n8 w8 rb => ?_⟩
                cases rb
                obtain ⟨fD8, nD8, eD8⟩ := offD n8 fD6 nD6 eD6
                rw [if_neg Bool.false_ne_true]
                have n68 := n6.trans n8
                exact ⟨F8, A8, m8, acc5, xs5, k1.trans n68, k2.trans n68, fD8, nD8, k5.of n68.sub n68.pre w8.os, eD8, k7.same n68.sub, k8, k9.trans n68.sub, k10.of n68.sub n68.pre w8.os, q5⟩
              | some (.ok true, m8), q5 =>
                simp only [eb7] at q5
                refine ⟨_, _, rfl, fun F8 A8 b H8 n8 w8 rb => ?_⟩
                cases rb
                obtain ⟨fD8, nD8, eD8⟩ := offD n8 fD6 nD6 eD6
                rw [if_pos rfl]
                refine ⟨F8, A8, ρ2, m8, w8, ?_⟩
                match ee : te ⟨ρ2, m8⟩, q5 with
                | none, q5 => simp only [ee] at q5; exact none_got q5
                | some (.ex C fs, m9), q5 => simp only [ee] at q5; exact none_got q5
                | some (.ok (.own p), m9), q5 => simp only [ee] at q5; exact none_got q5
                | some (.ok (.val u), m9), q5 =>
                  simp only [ee] at q5
                  split at q5
                  · rename_i hz
                    refine ⟨_, _, rfl, fun F9 A9 y9 H9 n9 w9 ry => ?_⟩
                    obtain ⟨fD9, nD9, eD9⟩ := offD n9 fD8 nD8 eD8
                    have n69 := (n6.trans n8).trans n9
                    refine ⟨xs5, eD9, by rw [k7.length]; exact sz_lt hz, F9, A9, m9, acc5 ++ [u], xs5 ++ [y9], (k1.trans n69).offD hD0, (k2.trans n69).offD hD, fD9, nD9, k5.of n69.sub n69.pre (w9.os.off fD9 nD9 (notbl eD9)), upd_same, (k7.same n69.sub).append (.cons ry .nil), by rw [List.length_append]; exact hz, k9.trans n69.sub, k10.of n69.sub n69.pre (w9.os.off fD9 nD9 (notbl eD9)), q5⟩
                  · exact none_got q5
          · have ei : j = us.length := by omega
            refine .inl ⟨wk5.2 (by omega), ?_⟩
            rw [List.drop_eq_nil_of_le (by omega)] at q5
            exact ⟨F5, A5, m5, acc5, xs5, k1, k2, k3, k4, k5, k6, k7, k8, q5⟩
  · have ei : i = ts.length := by omega
    refine .inl ⟨wk'.2 (by omega), ?_⟩
    rw [List.drop_eq_nil_of_le (by omega)] at q'
    exact q'.fin n' w' ⟨⟨D, xs, rfl, fD, nD, eD, racc, hacc⟩, fun p ep => by cases ep; exact hD0⟩
theorem pe_vcomp2 {elt tg iter tg1 iter1 : Expr} {ifs ifs1 : List Expr} {scope : Scope} (own : List (Str × Nat)) (vs1 : List Nat) {pos : Pos} {it it1 : VI} {L L1 : List Nat} {g g1 : VG} {tt tt1 : VT} {te : VE} (hL : ∀ i ∈ L, i ∈ own.map (·.2)) (hL1 : ∀ i ∈ L1, i ∈ vs1) (hv : ∀ i ∈ vs1, i ∈ own.map (·.2)) (hc : X.calm = true) (hN : X.N.Nodup) (hi : PI X tg iter (LI X.K W it)) (ok : BlkOk X.N X.env.scope scope own)
    (hg : ∀ (s : Shared) (H : Hp) (C : Addr) (cl : List (Str × Addr)) (fp : List Addr), PG (X.blk s H scope (compEnvC scope cl C X.env) fp) tg (LG X.K L g)) (ht : ∀ (s : Shared) (H : Hp) (C : Addr) (cl : List (Str × Addr)) (fp : List Addr), PTs (X.blk s H scope (compEnvC scope cl C X.env) fp) ifs (LT X.K W0 tt))
    (hi1 : ∀ (s : Shared) (H : Hp) (C : Addr) (cl : List (Str × Addr)) (fp : List Addr), PI (X.blk s H scope (compEnvC scope cl C X.env) fp) tg1 iter1 (LI X.K W0 it1))
    (hg1 : ∀ (s : Shared) (H : Hp) (C : Addr) (cl : List (Str × Addr)) (fp : List Addr), PG (X.blk s H scope (compEnvC scope cl C X.env) fp) tg1 (LG X.K L1 g1)) (ht1 : ∀ (s : Shared) (H : Hp) (C : Addr) (cl : List (Str × Addr)) (fp : List Addr), PTs (X.blk s H scope (compEnvC scope cl C X.env) fp) ifs1 (LT X.K W0 tt1))
    (he : ∀ (s : Shared) (H : Hp) (C : Addr) (cl : List (Str × Addr)) (fp : List Addr), PE (X.blk s H scope (compEnvC scope cl C X.env) fp) elt (LE X.K W0 te)) (hs : ∀ x, foldedSetIterable iter X.env x = pure x := by intro _; rfl) (hs1 : ∀ env x, foldedSetIterable iter1 env x = pure x := by intro _ _; rfl) :
    PE X (.ListComp elt [⟨tg, iter, ifs, 0⟩, ⟨tg1, iter1, ifs1, 0⟩] scope pos) (LN X.K W (vComp2 (own.map (·.2)) vs1 it g tt it1 g1 tt1 te)) := PE.imp (pe_lc2 hc hN hi ok hv hg ht hi1 hg1 ht1 he hs hs1) fun _ _ _ => le_comp2 hL hL1
theorem ps_vsetLc2 {i : Nat} {y : Str} {py : Pos} {elt tg iter tg1 iter1 : Expr} {ifs ifs1 : List Expr} {scope : Scope} (own : List (Str × Nat)) (vs1 : List Nat) {pos spos : Pos} {it it1 : VI} {L L1 : List Nat} {g g1 : VG} {tt tt1 : VT} {te : VE} (hL : ∀ i ∈ L, i ∈ own.map (·.2)) (hL1 : ∀ i ∈ L1, i ∈ vs1) (hv : ∀ i ∈ vs1, i ∈ own.map (·.2)) (hc : X.calm = true) (hN : X.N.Nodup) (hy : X.N[i]? = some y) (hyl : X.env.scope.names.lookup y = some .local)
    (hsw : swapsWith (.ListComp elt [⟨tg, iter, ifs, 0⟩, ⟨tg1, iter1, ifs1, 0⟩] scope pos) (some (.Name y py)) spos.line X.env = pure true) (hi : PI X tg iter (LI X.K W it)) (ok : BlkOk X.N X.env.scope scope own)
    (hg : ∀ (s : Shared) (H : Hp) (C : Addr) (cl : List (Str × Addr)) (fp : List Addr), PG (X.blk s H scope (compEnvC scope cl C X.env) fp) tg (LG X.K L g)) (ht : ∀ (s : Shared) (H : Hp) (C : Addr) (cl : List (Str × Addr)) (fp : List Addr), PTs (X.blk s H scope (compEnvC scope cl C X.env) fp) ifs (LT X.K W0 tt))
    (hi1 : ∀ (s : Shared) (H : Hp) (C : Addr) (cl : List (Str × Addr)) (fp : List Addr), PI (X.blk s H scope (compEnvC scope cl C X.env) fp) tg1 iter1 (LI X.K W0 it1))
    (hg1 : ∀ (s : Shared) (H : Hp) (C : Addr) (cl : List (Str × Addr)) (fp : List Addr), PG (X.blk s H scope (compEnvC scope cl C X.env) fp) tg1 (LG X.K L1 g1)) (ht1 : ∀ (s : Shared) (H : Hp) (C : Addr) (cl : List (Str × Addr)) (fp : List Addr), PTs (X.blk s H scope (compEnvC scope cl C X.env) fp) ifs1 (LT X.K W0 tt1))
    (he : ∀ (s : Shared) (H : Hp) (C : Addr) (cl : List (Str × Addr)) (fp : List Addr), PE (X.blk s H scope (compEnvC scope cl C X.env) fp) elt (LE X.K W0 te)) (hs : ∀ x, foldedSetIterable iter X.env x = pure x := by intro _; rfl) (hs1 : ∀ env x, foldedSetIterable iter1 env x = pure x := by intro _ _; rfl) :
    PS X (.Assign [.Name y py] (.ListComp elt [⟨tg, iter, ifs, 0⟩, ⟨tg1, iter1, ifs1, 0⟩] scope pos) spos) (LS X.K W (vSet i (vVal (vComp2 (own.map (·.2)) vs1 it g tt it1 g1 tt1 te)))) := PS.imp (ps_setLc2 hc hN hy hyl hsw hi ok hv hg ht hi1 hg1 ht1 he hs hs1) fun D σ H h => le_comp2 hL hL1 (le_val (ls_set h))
end
end Vs
end
section
/-! Vs21: tables for isinstance; isinstance with two classes displayed. -/
namespace Vs
open PySem PySem.Spec PyProof.Rows L2
variable [WW]
section
variable {K : PySem.W.Frag} {W : WX} {X : Cx}
/-- the built-in types' answers, and the own classes' -/
def tyTab (base : Ty → Bool) (ct : Addr → Option Bool) : Ty → Option Bool
  | .cls C => ct C
  | y => some (base y)
theorem kitAny1 {t c : Value} {b : Bool} (h : PySem.W.kitOne K t c = some b) : PySem.W.kitAny K t [c] = some b := by
  unfold PySem.W.kitAny
  rw [h]
  cases b <;> rfl
theorem kitAny2 {t c d : Value} {b1 b2 : Bool} (h1 : PySem.W.kitOne K t c = some b1) (h2 : PySem.W.kitOne K t d = some b2) : PySem.W.kitAny K t [c, d] = some (b1 || b2) := by
  unfold PySem.W.kitAny
  rw [h1]
  cases b1
  · exact kitAny1 h2
  · rfl
/-- own classes' answers to one class -/
def CtOk (K : PySem.W.Frag) (u : Value) (ct : Addr → Option Bool) : Prop := ∀ C b, ct C = some b → PySem.W.kitOne K (.ref C) u = some b ∧ InsTy K C
def isIntB : Ty → Bool
  | .int => true
  | .bl => true
  | _ => false
def isBlB : Ty → Bool
  | .bl => true
  | _ => false
def isStrB : Ty → Bool
  | .str => true
  | _ => false
def isLstB : Ty → Bool
  | .lst => true
  | _ => false
def isTupB : Ty → Bool
  | .tup => true
  | _ => false
theorem isT1 {u : Value} {base : Ty → Bool} {ct : Addr → Option Bool} (h : ∀ y, (∀ C, y ≠ .cls C) → PySem.W.kitOne K (tyV y) u = some (base y)) (hc : CtOk K u ct) : IsT K [u] (tyTab base ct) := by
  refine ⟨fun y b e => kitAny1 ?_, fun C b e => (hc C b e).2⟩
  cases y with
  | cls C => exact (hc C b e).1
  | non => cases e; exact h .non (fun _ z => nomatch z)
  | bl => cases e; exact h .bl (fun _ z => nomatch z)
  | int => cases e; exact h .int (fun _ z => nomatch z)
  | str => cases e; exact h .str (fun _ z => nomatch z)
  | lst => cases e; exact h .lst (fun _ z => nomatch z)
  | tup => cases e; exact h .tup (fun _ z => nomatch z)
theorem kInt : ∀ y, (∀ C, y ≠ .cls C) → PySem.W.kitOne K (tyV y) (.type "int") = some (isIntB y)
  | .non, _ => kit_ty (by decide +kernel) | .bl, _ => kit_ty (by decide +kernel) | .int, _ => kit_ty (by decide +kernel) | .str, _ => kit_ty (by decide +kernel) | .lst, _ => kit_ty (by decide +kernel) | .tup, _ => kit_ty (by decide +kernel)
  | .cls C, h => absurd rfl (h C)
theorem kBl : ∀ y, (∀ C, y ≠ .cls C) → PySem.W.kitOne K (tyV y) (.type "bool") = some (isBlB y)
  | .non, _ => kit_ty (by decide +kernel) | .bl, _ => kit_ty (by decide +kernel) | .int, _ => kit_ty (by decide +kernel) | .str, _ => kit_ty (by decide +kernel) | .lst, _ => kit_ty (by decide +kernel) | .tup, _ => kit_ty (by decide +kernel)
  | .cls C, h => absurd rfl (h C)
theorem kStr : ∀ y, (∀ C, y ≠ .cls C) → PySem.W.kitOne K (tyV y) (.type "str") = some (isStrB y)
  | .non, _ => kit_ty (by decide +kernel) | .bl, _ => kit_ty (by decide +kernel) | .int, _ => kit_ty (by decide +kernel) | .str, _ => kit_ty (by decide +kernel) | .lst, _ => kit_ty (by decide +kernel) | .tup, _ => kit_ty (by decide +kernel)
  | .cls C, h => absurd rfl (h C)
theorem kLst : ∀ y, (∀ C, y ≠ .cls C) → PySem.W.kitOne K (tyV y) (.type "list") = some (isLstB y)
  | .non, _ => kit_ty (by decide +kernel) | .bl, _ => kit_ty (by decide +kernel) | .int, _ => kit_ty (by decide +kernel) | .str, _ => kit_ty (by decide +kernel) | .lst, _ => kit_ty (by decide +kernel) | .tup, _ => kit_ty (by decide +kernel)
  | .cls C, h => absurd rfl (h C)
theorem kTup : ∀ y, (∀ C, y ≠ .cls C) → PySem.W.kitOne K (tyV y) (.type "tuple") = some (isTupB y)
  | .non, _ => kit_ty (by decide +kernel) | .bl, _ => kit_ty (by decide +kernel) | .int, _ => kit_ty (by decide +kernel) | .str, _ => kit_ty (by decide +kernel) | .lst, _ => kit_ty (by decide +kernel) | .tup, _ => kit_ty (by decide +kernel)
  | .cls C, h => absurd rfl (h C)
/-- isinstance(x, (c1, c2)) -/
def tab2 (a b : Ty → Option Bool) : Ty → Option Bool := fun y => match a y, b y with
    | some a, some b => some (a || b)
    | _, _ => none
theorem isT2 {u1 u2 : Value} {b1 b2 : Ty → Bool} {c1 c2 : Addr → Option Bool} (h1 : IsT K [u1] (tyTab b1 c1)) (h2 : IsT K [u2] (tyTab b2 c2)) : IsT K [u1, u2] (tab2 (tyTab b1 c1) (tyTab b2 c2)) := by
  have one : ∀ {t u : Value} {b : Bool}, PySem.W.kitAny K t [u] = some b → PySem.W.kitOne K t u = some b := fun {t u b} h => by
    unfold PySem.W.kitAny at h
    split at h
    · rename_i e; rw [e]; exact h
    · rename_i e; rw [e, ← h]; rfl
    · cases h
  refine ⟨fun y b e => ?_, fun C b e => ?_⟩
  · unfold tab2 at e
    split at e
    · rename_i a b' e1 e2
      cases e
      exact kitAny2 (one (h1.ans _ _ e1)) (one (h2.ans _ _ e2))
    · cases e
  · unfold tab2 at e
    split at e
    · rename_i a b' e1 e2
      exact h1.ins C a e1
    · cases e
theorem pe_visi2 {c c' : Str} {p p2 p3 p4 pos : Pos} {k : Nat} {e : Expr} {f : VE} {v v' : V} {u u' : Value} (tab : Ty → Option Bool) (hT : IsT X.K [u, u'] tab) (hg : Gl X "isinstance") (hm : X.mg "isinstance" = none) (he : PE X e (LE X.K W f)) (hc : PE X (.Name c p2) (tC v)) (hc' : PE X (.Name c' p3) (tC v')) (kk : ClsV v u) (kk' : ClsV v' u')
    (hs1 : starEach [e, .Tuple [.Name c p2, .Name c' p3] k p4] X.env = (false, eval e X.env) :: starEach [.Tuple [.Name c p2, .Name c' p3] k p4] X.env := by rfl) (hpl : (backTo pos (starEach [.Tuple [.Name c p2, .Name c' p3] k p4] X.env)).any (·.1) = false := by rfl) (hs2 : starEach [.Tuple [.Name c p2, .Name c' p3] k p4] X.env = (false, eval (.Tuple [.Name c p2, .Name c' p3] k p4) X.env) :: starEach [] X.env := by rfl)
    (hs3 : starEach [.Name c p2, .Name c' p3] X.env = (false, eval (.Name c p2) X.env) :: starEach [.Name c' p3] X.env := by rfl) (hs4 : starEach [.Name c' p3] X.env = (false, eval (.Name c' p3) X.env) :: starEach [] X.env := by rfl) :
    PE X (.Call (.Name "isinstance" p) [e, .Tuple [.Name c p2, .Name c' p3] k p4] [] pos) (LE X.K W (vIsi tab f)) := PE.imp (pe_callB call_isiT hg hm (by decide +kernel) (pa_cons he (pa_cons (pe_tup (pa_cons hc (pa_cons hc' pa_nil hs4) hs3)) pa_nil hs2) hs1) (by decide) (by decide) hs1 hpl) fun σ H Q ⟨F, A, ρ, m, w, g⟩ =>
  ⟨F, A, ρ, m, w, (Got.bind (R1 := rS X.K) g).mono fun x H1 ⟨F1, A1, m1, s, n1, w1, rx, q⟩ => by
    refine ⟨by show 2 ≤ sizeLine; decide, fun tp ntp => ?_⟩
    have w2 : Wd X.K F1 A1 ρ m1 σ (upd H1 tp (.tup [v, v'])) := w1.of (Same.refl _) (List.prefix_refl _) (w1.os.keep ntp)
    have n2 : Nxt F1 A1 H1 F1 A1 (upd H1 tp (.tup [v, v'])) := ⟨Same.refl _, List.prefix_refl _, fun _ _ e => .inl e, fun _ h => .inl h, fun a o e _ => .inr (by rw [upd_ne (ne_of_none e ntp)]; exact e)⟩
    obtain ⟨t, b, h1, h2, h3⟩ := isi_go hT w2 rx (q.later n2)
    exact ⟨x, tp, [v, v'], t, [u, u'], b, rfl, upd_same, .cons kk (.cons kk' .nil), h1, h2, h3.now w2 (.bl b)⟩⟩
end
end Vs
end
section
/-! Vs22: a < b < c. -/
namespace Vs
open PySem PySem.Spec PyProof.Rows L2
variable [WW]
section
variable {K : PySem.W.Frag} {W : WX} {X : Cx}
end
end Vs
namespace Vs
open PySem PySem.Spec PyProof.Rows L2
variable [WW]
/-- a class's method, as it is called, below room k -/
def MVd (P : Program) (w : World) (K : PySem.W.Frag) (mg : Str → Option Value) (base : Heap) (kk : Nat) (m : Str) (np : Nat) (C : Addr) (vf : VF) : Prop := Cls K C ∧ ∃ (k : Nat) (g : Addr) (fd : FuncData) (ps : List Str), k ≤ kk ∧ Meth K C m g ∧ FnOk P w K mg base (L2.CX P w) k g fd ps (SpV K np vf) ∧ Binds K fd ps []
theorem MVd.mv {X : Cx} {kk : Nat} {m : Str} {np : Nat} {C : Addr} {vf : VF} (h : MVd X.prog X.w X.K X.mg X.base kk m np C vf) (hr : Room kk X.A) : MV X m np C vf :=
  let ⟨c, k, g, fd, ps, hk, hm, F, b⟩ := h
  ⟨c, k, g, fd, ps, hm, F, hr.mono hk, b⟩
/-- a method's def, as str and == reach it -/
structure DM (P : Program) (w : World) (K : PySem.W.Frag) (mg : Str → Option Value) (base : Heap) (k np : Nat) (vf : VF) where
  a : Addr
  fd : FuncData
  ps : List Str
  g : FnOk P w K mg base (L2.CX P w) k a fd ps (SpV K np vf)
  b : Binds K fd ps []
/-- a constant of the module -/
structure GV (K : PySem.W.Frag) (mg : Str → Option Value) (x : Str) (t : T) where
  v : V
  u : Value
  m : mg x = some u
  r : RelV v u
  rp : ∀ F, Rp K F v t
end Vs
end
section
/-! Vs23: *e in displays and calls; C() without an own __init__; C(..) by its record. -/
namespace Vs
open PySem PySem.Spec PyProof.Rows L2
variable [WW]
section
variable {K : PySem.W.Frag} {W : WX} {X : Cx}
theorem RpSs.app {F : Hp} {A : List Addr} : ∀ {xs ys : List V} {as bs : List Sl}, RpSs K F A xs as → RpSs K F A ys bs → RpSs K F A (xs ++ ys) (as ++ bs)
  | _, _, _, _, .nil, h => h
  | _, _, _, _, .cons a r, h => .cons a (RpSs.app r h)
theorem RpSs.ofL {F : Hp} {A : List Addr} : ∀ {xs : List V} {ts : List T}, RpL K F xs ts → RpSs K F A xs (ts.map .val)
  | _, _, .nil => .nil
  | _, _, .cons a r => .cons a (RpSs.ofL r)
def vStar (f : VE) (g : VA) : VA := fun s => bM (f s) fun a m1 => match seqOf a m1 with
  | some ts => bM (g ⟨s.ρ, m1⟩) fun ss m2 => rM (ts.map .val ++ ss) m2
  | none => none
theorem pa_vstar {e : Expr} {es : List Expr} {f : VE} {g : VA} {p : Pos} (he : PE X e (LE X.K W f)) (hr : PA X es (LA X.K W g)) (hs : starEach (.Starred e p :: es) X.env = (true, eval e X.env) :: starEach es X.env := by rfl) : PA X (.Starred e p :: es) (LA X.K W (vStar f g)) := PA.imp (StX.pa_star he hr hs) fun σ H Q ⟨F, A, ρ, m, w, got⟩ =>
  ⟨F, A, ρ, m, w, (Got.bind (R1 := rS X.K) got).mono fun x H1 ⟨F1, A1, m1, a, n1, w1, ra, q⟩ => by
    split at q
    · rename_i ts e1
      obtain ⟨p, xs, rfl, h1, h2⟩ := seqOf_at2 w1.os ra e1
      refine ⟨p, xs, rfl, h1.elim .inr fun h => .inl (sqT_same w1.os.sub h), F1, A1, ρ, m1, w1, (Got.bind (R1 := fun F' A' _ vs ss => RpSs X.K F' A' vs ss) q).mono fun ys H2 ⟨F2, A2, m2, ss, n2, w2, rs, q2⟩ => q2.now w2 (RpSs.app (RpSs.ofL (h2.same n2.sub)) rs)⟩
    · exact none_got q⟩
/-- a new instance without fields -/
def vMakeO (C : Addr) : VE := fun s => rM (.own s.m.length) (s.m ++ [.ins C []])
theorem pe_vmakeO {x : Str} {C : Addr} {p pos : Pos} (M : Own.MkO X.K C) (hg : Gl X x) (hm : X.mg x = some (.ref C)) (hdb : (x == ("__debug__" : Str)) = false := by decide) : PE X (.Call (.Name x p) [] [] pos) (LE X.K W (vMakeO C)) := PE.imp (Own.pe_makeO M hg hm hdb) fun σ H Q ⟨F, A, ρ, m, w, got⟩ => fun x dx nx nd ne => by
  have o1 : Objs X.K F A m (upd H dx (.own x)) := w.os.keep nd
  have n0 : Nxt F A H F A (upd H dx (.own x)) := ⟨Same.refl _, List.prefix_refl _, fun _ _ e => .inl e, fun _ h => .inl h, fun a o e _ => .inr (by rw [upd_ne (ne_of_none e nd)]; exact e)⟩
  have xA : x ∉ A := w.os.notin nx
  have fx : F x = none := w.os.fnone nx
  have o2 : Objs X.K F (A ++ [x]) (m ++ [.ins C []]) (upd (upd H dx (.own x)) x (.ins C dx [])) := (o1.over fx xA (notbl0 (by rw [upd_ne (Ne.symm ne)]; exact nx))).addO xA ⟨_, upd_same⟩ ⟨fx, dx, [], upd_same, .nil⟩
  exact got.fin (n0.addp nx) (w.of (Same.refl _) (List.prefix_append A [x]) o2) ⟨x, by rw [← w.os.len, List.getElem?_append_right (Nat.le_refl _), Nat.sub_self]; rfl, rfl⟩
/-- a class that is made by its __init__ -/
structure MI (P : Program) (w : World) (K : PySem.W.Frag) (mg : Str → Option Value) (base : Heap) (k np : Nat) (x : Str) (C : Addr) (vf : VF) where
  f : Addr
  fd : FuncData
  ps : List Str
  mks : Mk K C f
  g : FnOk P w K mg base (L2.CX P w) k f fd ps (SpV K np vf)
  b : Binds K fd ps []
  m : mg x = some (.ref C)
end
end Vs
end
section
/-! Vs24: f(), C.m(..), C(..) with defaults, cls(..), text.split(sep). -/
namespace Vs
open PySem PySem.Spec PyProof.Rows L2
variable [WW]
section
variable {W : WX} {X : Cx}
/-! ### f() -/
theorem pe_callS0 {k : Nat} {f : Addr} {fd : FuncData} {ps : List Str} {sp : Sp} {E : L2.St → XK} {x : Str} {p pos : Pos} (F : FnOk X.prog X.w X.K X.mg X.base (L2.CX X.prog X.w) k f fd ps sp) (hr : Room k X.A) (hg : Gl X x) (hm : X.mg x = some (.ref f)) (hk : PySem.W.keepIn X.K (.ref f) = true) (hb : Binds X.K fd ps []) (hx : ∀ σ, PassesAt (L2.CX X.prog X.w) X σ (E σ)) (hdb : (x == ("__debug__" : Str)) = false := by decide) :
    PE X (.Call (.Name x p) [] [] pos) (fun σ H Q => sp [] H Q (E σ)) := by
  refine ⟨fun pins s σ H Q I h => ?_⟩
  refine wpAny_Call_Name_kw (ld_glob I hg hm ?_ hdb)
  exact PySem.W.callWith_K0 I.kIn hk (run_fnS (us := []) F hr hb (hx σ) I .nil h)
theorem pe_vcall0 {k : Nat} {f : Addr} {fd : FuncData} {ps : List Str} {vf : VF} {x : Str} {p pos : Pos} (F : FnOk X.prog X.w X.K X.mg X.base (L2.CX X.prog X.w) k f fd ps (SpV X.K 0 vf)) (hr : Room k X.A) (hg : Gl X x) (hm : X.mg x = some (.ref f)) (hk : PySem.W.keepIn X.K (.ref f) = true) (hb : Binds X.K fd ps []) (tk : Takes X W) (hdb : (x == ("__debug__" : Str)) = false := by decide) :
    PE X (.Call (.Name x p) [] [] pos) (LE X.K W (vCall vf vNil)) := PE.imp (pe_callS0 F hr hg hm hk hb (fun σ => passAt tk σ) hdb) fun σ H Q ⟨F, A, ρ, m, w, g⟩ => call_got rfl w .nil g
/-! ### C.m(e, ..), a class method -/
structure CM (P : Program) (w : World) (K : PySem.W.Frag) (mg : Str → Option Value) (base : Heap) (k np : Nat) (m : Str) (C : Addr) (vf : VF) where
  mc : Value
  p : Addr
  a : Addr
  fd : FuncData
  ps : List Str
  rd : ClX.CRead K C mc
  mt : ClX.CMet K C mc m p a
  g : FnOk P w K mg base (L2.CX P w) k a fd ps (SpV K np vf)
  b : Binds K fd ps []
def vCMeth (C : Addr) (vf : VF) (fa : VA) : VE := fun s => bM (fa s) fun ss m => callM vf (.val (.cst (.ref C)) :: ss) m
theorem pe_vcmeth {np k : Nat} {C : Addr} {vf : VF} {fa : VA} {o e : Expr} {es : List Expr} {m : Str} {pos apos : Pos} {pl : Sem Bool} (D : CM X.prog X.w X.K X.mg X.base k np m C vf) (hO : PE X o (tC (.ref C))) (hr : Room k X.A) (tk : Takes X W) (ha : PA X (e :: es) (LA X.K W fa)) (hn : ∀ s ss m, fa s = some (.ok ss, m) → ss.length + 1 = np)
    (h1 : starEach (e :: es) X.env = (false, eval e X.env) :: starEach es X.env := by rfl) (h2 : (backTo pos (starEach es X.env)).any (·.1) = false := by rfl)
    (h3 : eval (.Call (.Attribute o m apos) (e :: es) [] pos) X.env = (do
      let it ← eval o X.env
      standAt apos.atName
      let (fn, ahead) ← holding [it] (getMethod it m pl)
      callWith pos fn ahead (backTo pos (starEach (e :: es) X.env)) (backToKw pos (keywordEach [] X.env))) := by rfl) : PE X (.Call (.Attribute o m apos) (e :: es) [] pos) (LE X.K W (vCMeth C vf fa)) := PE.imp (Own.pe_cmethS hO D.rd D.mt (D.g.raw D.b .nil) hr (fun σ => passAt tk σ) ha h1 h2 h3) fun σ H Q ⟨F, A, ρ, m0, w, g⟩ => by
  refine ⟨rfl, F, A, ρ, m0, w, ?_⟩
  match e2 : fa ⟨ρ, m0⟩, g with
  | none, g => unfold vCMeth at g; rw [e2] at g; exact none_got g
  | some (.ex D' fs, m1), g =>
    unfold vCMeth at g
    rw [e2] at g
    obtain ⟨_, _, z, g⟩ := g
    cases z
    exact ⟨_, _, rfl, g⟩
  | some (.ok ss, m1), g =>
    unfold vCMeth at g
    rw [e2] at g
    have hl := hn _ _ _ e2
    refine ⟨_, _, rfl, fun F1 A1 vs H1 n1 w1 rs => ?_⟩
    show SpV X.K np vf ((V.ref C :: vs) ++ []) H1 Q (WE W σ)
    rw [List.append_nil]
    exact call_got (by rw [List.length_cons, RpSs.length rs]; exact hl) w1 (.cons (show RpS X.K F1 A1 (.ref C) (.val (.cst (.ref C))) from .cst _) rs) (Got.later g n1)
/-! ### C(..), defaults behind the arguments -/
structure MD (P : Program) (w : World) (K : PySem.W.Frag) (mg : Str → Option Value) (base : Heap) (k np : Nat) (C : Addr) (vf : VF) (dts : List T) where
  f : Addr
  fd : FuncData
  ps : List Str
  ds : List Value
  dvs : List V
  mks : Mk K C f
  g : FnOk P w K mg base (L2.CX P w) k f fd ps (SpV K np vf)
  b : Binds K fd ps ds
  hd : Vals dvs ds
  rd : ∀ F, RpL K F dvs dts
def vMakeD (C : Addr) (vf : VF) (dts : List T) (fa : VA) : VE := fun s => bM (fa s) fun ss m1 => bM (callM vf (.own m1.length :: (ss ++ dts.map .val)) (m1 ++ [.ins C []])) fun r m2 => match r with
  | .val .non => rM (.own m1.length) m2
  | _ => none
theorem le_makeD {P : Program} {w0 : World} {K : PySem.W.Frag} {mg : Str → Option Value} {base : Heap} {k np : Nat} {C : Addr} {vf : VF} {dts : List T} (D : MD P w0 K mg base k np C vf dts) {fa : VA} (hn : ∀ s ss m, fa s = some (.ok ss, m) → ss.length + dts.length + 1 = np) {σ : L2.St} {H : Hp} {Q : VK} (h : LE K W (vMakeD C vf dts fa) σ H Q) : Own.tMakeS C (SpV K np vf) D.dvs (WE W) (LA K W fa) σ H Q := by
  obtain ⟨F, A, ρ, m, w, g⟩ := h
  refine ⟨F, A, ρ, m, w, ?_⟩
  match e : fa ⟨ρ, m⟩, g with
  | none, g => unfold vMakeD at g; rw [e] at g; exact none_got g
  | some (.ex D' fs, m1), g =>
    unfold vMakeD at g
    rw [e] at g
    obtain ⟨_, _, z, g⟩ := g
    cases z
    exact ⟨_, _, rfl, g⟩
  | some (.ok ss, m1), g =>
    unfold vMakeD at g
    rw [e] at g
    have hl := hn _ _ _ e
    refine ⟨_, _, rfl, fun F1 A1 vs H1 n1 w1 rs x dx nx nd ne => ?_⟩
    exact make_go (by rw [List.length_append, RpSs.length rs, (D.rd F1).length]; exact hl) w1 (rs.app (RpSs.ofL (D.rd F1))) (Got.later g n1) x dx nx nd ne
theorem go0 {P : Program} {w0 : World} {K : PySem.W.Frag} {mg : Str → Option Value} {base : Heap} {k np : Nat} {C : Addr} {vf : VF} {dts : List T} (D : MD P w0 K mg base k np C vf dts) (hn : dts.length + 1 = np) {σ : L2.St} {H : Hp} {Q : VK} (h : LE K W (vMakeD C vf dts vNil) σ H Q) :
    ∀ x dx, H x = none → H dx = none → dx ≠ x → SpV K np vf (.ref x :: ([] ++ D.dvs)) (upd (upd H dx (.own x)) x (.ins C dx [])) (fun v H2 => v = .non ∧ Q (.ref x) H2) (WE W σ) := by
  obtain ⟨F, A, ρ, m, w, g⟩ := h
  intro x dx nx nd ne
  exact make_go (vs := [] ++ D.dvs) (ss := [] ++ dts.map .val) (by rw [List.nil_append, (D.rd F).length]; exact hn) w (RpSs.app .nil (RpSs.ofL (D.rd F))) g x dx nx nd ne
/-! ### cls(..) -/
def vAtC (i : Nat) (C : Addr) (f : VE) : VE := fun s => match s.ρ[i]? with
  | some (some (.val (.cst (.ref D)))) => if D = C then f s else none
  | _ => none
theorem atC {K : PySem.W.Frag} {i : Nat} {C : Addr} {f : VE} {σ : L2.St} {H : Hp} {Q : VK} (h : LE K W (vAtC i C f) σ H Q) : σ[i]? = some (some (.ref C)) ∧ LE K W f σ H Q := by
  obtain ⟨F, A, ρ, m, w, g⟩ := h
  unfold vAtC at g
  split at g
  · rename_i D e
    split at g
    · rename_i ed
      subst ed
      obtain ⟨v, h1, h2⟩ := w.slot i _ e
      cases h2
      exact ⟨h1, F, A, ρ, m, w, g⟩
    · exact none_got g
  · exact none_got g
theorem pe_vmakeL {np k i : Nat} {C : Addr} {vf : VF} {dts : List T} {fa : VA} {x : Str} {e : Expr} {es : List Expr} {p pos : Pos} (D : MD X.prog X.w X.K X.mg X.base k np C vf dts) (hr : Room (k + 1) X.A) (hN : X.N[i]? = some x) (hv : Vis X.env.scope x) (tk : Takes X W)
    (ha : PA X (e :: es) (LA X.K W fa)) (hn : ∀ s ss m, fa s = some (.ok ss, m) → ss.length + dts.length + 1 = np) (hdb : (x == ("__debug__" : Str)) = false := by decide) (hcd : (x == ("__classdict__" : Str)) = false := by decide) (he : starEach (e :: es) X.env = (false, eval e X.env) :: starEach es X.env := by rfl) (hpl : (backTo pos (starEach es X.env)).any (·.1) = false := by rfl) :
    PE X (.Call (.Name x p) (e :: es) [] pos) (LE X.K W (vAtC i C (vMakeD C vf dts fa))) := ⟨fun pins s σ H Q I h => by
  obtain ⟨hs, ht⟩ := atC h
  refine wpAny_Call_Name_kw (thn ((pe_var (pos := p) hN hv hdb hcd).run pins s σ H (fun y H1 => y = .ref C ∧ H1 = H) I ⟨.ref C, hs, rfl, rfl⟩) fun u s1 w1 => ?_)
  obtain ⟨y, H1, J, ry, ey, eh⟩ := w1
  subst ey eh
  cases ry
  exact PySem.W.callWith_K (h₀ := X.base) J.ok.mod.kin D.mks.kp (thn (ha.run pos pins s1 σ _ _ J (le_makeD D hn ht)) fun us s2 ⟨vs, H2, J2, r, q⟩ => ⟨J2.kIn, Own.run_makeS (E := WE W) D.mks D.g hr D.b D.hd (passAt tk σ) J2 r q⟩) he hpl⟩
theorem pe_vmakeL0 {np k i : Nat} {C : Addr} {vf : VF} {dts : List T} {x : Str} {p pos : Pos} (D : MD X.prog X.w X.K X.mg X.base k np C vf dts) (hr : Room (k + 1) X.A) (hN : X.N[i]? = some x) (hv : Vis X.env.scope x) (tk : Takes X W) (hn : dts.length + 1 = np) (hdb : (x == ("__debug__" : Str)) = false := by decide) (hcd : (x == ("__classdict__" : Str)) = false := by decide) :
    PE X (.Call (.Name x p) [] [] pos) (LE X.K W (vAtC i C (vMakeD C vf dts vNil))) := ⟨fun pins s σ H Q I h => by
  obtain ⟨hs, ht⟩ := atC h
  refine wpAny_Call_Name_kw (thn ((pe_var (pos := p) hN hv hdb hcd).run pins s σ H (fun y H1 => y = .ref C ∧ H1 = H) I ⟨.ref C, hs, rfl, rfl⟩) fun u s1 w1 => ?_)
  obtain ⟨y, H1, J, ry, ey, eh⟩ := w1
  subst ey eh
  cases ry
  exact PySem.W.callWith_K0 J.kIn D.mks.kp (Own.run_makeS (us := []) (E := WE W) D.mks D.g hr D.b D.hd (passAt tk σ) J .nil (go0 D hn ht))⟩
/-! ### text.split(sep) -/
abbrev rSplit : V → List V → Hp → VK → Prop := fun x xs H Q => ∃ a b, x = .str a ∧ xs = [.str b] ∧ (b.length == 0) = false ∧ a.length + 2 ≤ sizeLine ∧ rNewStrs (Txt.split a b) H Q
def gSplit (o a : Sl) (m : List MO) : M (List T) := match o, a with
  | .val (.str x), .val (.str y) => if (y.length == 0) = false ∧ x.length + 2 ≤ SZ ∧ (Txt.split x y).length ≤ SZ then rM ((Txt.split x y).map T.str) m else none
  | _, _ => none
theorem split_go {K : PySem.W.Frag} {F0 F : Hp} {A0 A : List Addr} {ρ : List (Option Sl)} {m : List MO} {σ : L2.St} {H0 H : Hp} {x y : V} {o a : Sl} {Q : VK} (n : Nxt F0 A0 H0 F A H) (w : Wd K F A ρ m σ H) (ro : RpS K F A x o) (ra : RpS K F A y a) (g : Got K W σ ρ F A H (relN K H0) (gSplit o a m) Q) : rSplit x [y] H Q := by
  unfold gSplit at g
  split at g
  · rename_i xs ys
    split at g
    · rename_i hc
      cases ro
      cases ra
      exact ⟨xs, ys, rfl, rfl, hc.1, sz_le hc.2.1, fun p np => new_list n g w np rp_strs (by rw [List.length_map]; exact hc.2.2)⟩
    · exact none_got g
  · exact none_got g
def vSplit (fo fe : VE) : VN := fun s => bM (fo s) fun o m1 => if isStr o = true then bM (fe ⟨s.ρ, m1⟩) fun a m2 => gSplit o a m2 else none
theorem isStr_at {K : PySem.W.Frag} {F : Hp} {A : List Addr} {x : V} {o : Sl} (e : isStr o = true) (r : RpS K F A x o) : ∃ a, x = .str a := by
  unfold isStr at e
  split at e
  · cases r; exact ⟨_, rfl⟩
  · cases e
theorem pe_vsplit {o e : Expr} {fo fe : VE} {apos pos : Pos} (ho : PE X o (LE X.K W fo)) (he : PE X e (LE X.K W fe)) (hs : starEach [e] X.env = [(false, eval e X.env)] := by rfl) (hbase : attributeBase o "split" X.env (eval o X.env) = eval o X.env := by rfl) (hline : (apos.endLine == pos.line) = true := by rfl) :
    PE X (.Call (.Attribute o "split" apos) [e] [] pos) (LN X.K W (vSplit fo fe)) := PE.imp (pe_split ho he hs hbase hline) fun σ H Q ⟨F, A, ρ, m, w, g⟩ =>
  ⟨F, A, ρ, m, w, (Got.bind (R1 := rS X.K) g).mono fun x H1 ⟨F1, A1, m1, o, n1, w1, ro, q⟩ => by
    by_cases e : isStr o = true
    · rw [if_pos e] at q
      exact ⟨isStr_at e ro, F1, A1, ρ, m1, w1, (Got.bind (R1 := rS X.K) q).mono fun y H2 ⟨F2, A2, m2, s, n2, w2, rs, g2⟩ => split_go (n1.trans n2) w2 (ro.next n2.sub n2.pre) rs g2⟩
    · rw [if_neg e] at q; exact none_got q⟩
end
end Vs
end
section
/-! Vs25: try .. except X as e: name = what is read off e. -/
namespace Vs
open PySem PySem.Spec PyProof.Rows L2
variable [WW]
section
variable {K : PySem.W.Frag} {W : WX} {X : Cx}
abbrev XP := Addr → List (Str × T) → Option T
section
variable {i : Nat} {a : Addr} {cls : Value} {d : Option Addr}
end
section
variable {i : Nat} {a D T' : Addr} {cls : Value} {d : Option Addr} {oe : Obj} {pn : List (Addr × Obj)} {n c : Str} {p p2 p3 pos : Pos}
end
/-! ### the suite: name = .., and the try -/
def vTry (mt : Addr → Option Bool) (i : Nat) (fb : VS) (g : Addr → List (Str × T) → VS) : VS := fun s => match fb s with
  | some (.ex C fs, s1) => match mt C with
    | some true => if i < s1.ρ.length then match g C fs ⟨s1.ρ.set i none, s1.m⟩ with
        | some (.nx, s2) => some (.nx, ⟨s2.ρ.set i none, s2.m⟩)
        | _ => none
      else none
    | some false => some (.ex C fs, s1)
    | none => none
  | x => x
/-- a try whose body raises nothing here -/
def vNoEx (fb : VS) : VS := fun s => match fb s with
  | some (.ex _ _, _) => none
  | x => x
theorem ls_noEx {fb : VS} {D : Ends} {σ : L2.St} {H : Hp} (h : LS K W (vNoEx fb) D σ H) : LS K W0 fb D σ H := by
  obtain ⟨F, A, ρ, m, w, r⟩ := h
  refine ⟨F, A, ρ, m, w, ?_⟩
  unfold vNoEx at r
  match e : fb ⟨ρ, m⟩, r with
  | none, r => exact none_ran (show Ran K W F A H D none from r)
  | some (.nx, s1), r =>
    obtain ⟨_, _, z, r⟩ := (show Ran K W F A H D (some (.nx, s1)) from r)
    cases z
    exact ⟨_, _, rfl, r⟩
  | some (.bk, s1), r =>
    obtain ⟨_, _, z, r⟩ := (show Ran K W F A H D (some (.bk, s1)) from r)
    cases z
    exact ⟨_, _, rfl, r⟩
  | some (.ct, s1), r =>
    obtain ⟨_, _, z, r⟩ := (show Ran K W F A H D (some (.ct, s1)) from r)
    cases z
    exact ⟨_, _, rfl, r⟩
  | some (.rt v, s1), r =>
    obtain ⟨_, _, z, r⟩ := (show Ran K W F A H D (some (.rt v, s1)) from r)
    cases z
    exact ⟨_, _, rfl, r⟩
  | some (.ex C fs, s1), r => exact none_ran (show Ran K W F A H D none from r)
theorem ps_vthru {fb : VS} {body : List Stmt} {h₀ : ExceptHandler} {hs : List ExceptHandler} {pos : Pos} (hb : PSs X.nox body (LS X.K W0 fb)) : PS X (.Try body (h₀ :: hs) [] [] pos) (LS X.K W (vNoEx fb)) := PS.imp (ps_try_thru0 hb) fun _ _ _ => ls_noEx
end
end Vs
end
section
/-! Vs26: errors without arguments, raised (what makes them is a premise: MkZ). -/
namespace Vs
open PySem PySem.Spec PyProof.Rows L2
variable [WW]
/-- C() makes an error without fields -/
def MkZ (P : Program) (w : World) (K : PySem.W.Frag) (mg : Str → Option Value) (base : Heap) (k : Nat) (x : Str) (C : Addr) : Prop :=
  ∀ (X : Cx) (p pos : Pos), X.prog = P → X.w = w → X.K = K → X.mg = mg → X.base = base → X.calm = true → Room k X.A → Gl X x → PMk X (.Call (.Name x p) [] [] pos) (fun _ H Q => ∀ d, H d = none → Q (.ref C) (some d) (upd H d (.xd [])))
section
variable {W : WX} {X : Cx}
end
end Vs
end
section
/-! Vs27: what is not reached; x += i, o.f += i, xs[i] = v. -/
namespace Vs
open PySem PySem.Spec PyProof.Rows L2
variable [WW]
section
variable {K : PySem.W.Frag} {W : WX} {X : Cx}
/-- a statement, an expression that is not reached: its function has no answer -/
def vNever : VS := fun _ => none
theorem ps_vnever {st : Stmt} : PS X st (LS K W vNever) := PS.imp ps_never fun D σ H ⟨F, A, ρ, m, w, r⟩ => none_ran r
/-- name += an int -/
def gAug (i : Nat) (ρ : List (Option Sl)) (f : Int → Int → Int) (y : Sl) (m : List MO) : R := match ρ[i]?, y with
  | some (some (.val (.int a))), .val (.int b) => some (.nx, ⟨ρ.set i (some (.val (.int (f a b)))), m⟩)
  | _, _ => none
def vHas (i : Nat) (g : VS) : VS := fun s => match s.ρ[i]? with
  | some (some (.val (.int _))) => g s
  | _ => none
def vAug (i : Nat) (f : Int → Int → Int) (fe : VE) : VS := vHas i fun s => bS s.ρ (fe s) (gAug i s.ρ f)
theorem ls_aug {i : Nat} {f : Int → Int → Int} {fe : VE} {D : Ends} {σ : L2.St} {H : Hp} (h : LS K W (vAug i f fe) D σ H) : tAug i (LE K W fe) (ipI f) D σ H := by
  obtain ⟨F, A, ρ, m, w, r⟩ := h
  unfold vAug vHas at r
  split at r
  · rename_i a e
    obtain ⟨v, h1, h2⟩ := w.slot i _ e
    cases h2
    refine ⟨.int a, h1, F, A, ρ, m, w, (Ran.bS (rS K) r).mono fun y H1 ⟨F1, A1, m1, s, n1, w1, ry, q⟩ => ?_⟩
    unfold gAug at q
    split at q
    · rename_i a' b e2
      simp only at e e2
      rw [e] at e2
      cases e2
      cases ry
      exact ⟨_, _, rfl, rfl, q.nx (w1.set (r := .val (.int (f a b))) (show Rp K F1 _ _ from .int _))⟩
    · exact none_ran q
  · exact none_ran r
theorem ps_vaug {i : Nat} {x : Str} {e : Expr} {fe : VE} {op : Operator} {f : Int → Int → Int} {pos pos' : Pos} (hN : X.N.Nodup) (hi : X.N[i]? = some x) (hx : Loc X.env.scope x) (he : PE X e (LE X.K W fe)) (ho : PIp X op (ipI f)) (hf : X.fn x = true ∨ X.env.scope.names.lookup x = some .local := by first | exact .inl rfl | exact .inr rfl) :
    PS X (.AugAssign (.Name x pos') op e pos) (LS X.K W (vAug i f fe)) := PS.imp (ps_aug hN hi hx he ho hf) fun _ _ _ => ls_aug
end
end Vs
end
section
/-! Vs28: xs[i] = v, o.f += i. -/
namespace Vs
open PySem PySem.Spec PyProof.Rows L2
variable [WW]
section
variable {K : PySem.W.Frag} {W : WX} {X : Cx}
def gSetI (ρ : List (Option Sl)) (v o k : Sl) (m : List MO) : R := match v, o, k with
  | .val t, .own j, .val (.int i) => match m[j]? with
    | some (.lst ts) => match ixN ts.length i with
      | some p => some (.nx, ⟨ρ, m.set j (.lst (ts.set p t))⟩)
      | none => none
    | _ => none
  | _, _, _ => none
theorem setI_go {F : Hp} {A : List Addr} {ρ : List (Option Sl)} {m : List MO} {σ : L2.St} {H : Hp} {D : Ends} {v o k : Sl} {x y z : V} (w : Wd K F A ρ m σ H) (rv : RpS K F A x v) (ro : RpS K F A y o) (rk : RpS K F A z k) (q : Ran K W F A H D (gSetI ρ v o k m)) : rSetL y z x H fun H4 => D.nx σ H4 := by
  unfold gSetI at q
  split at q
  · rename_i t j i
    split at q
    · rename_i ts em
      split at q
      · rename_i p ep
        obtain ⟨a, ea, rfl⟩ := ro
        obtain ⟨fa, xs, eh, rl⟩ := w.os.obj j a _ ea em
        cases rk
        refine ⟨a, xs, i, p, rfl, rfl, eh, by rw [rl.length]; exact ep, ?_⟩
        have wr := w.os.write ea fa (u := .lst (xs.set p x)) (o := .lst (ts.set p t)) ⟨fa, _, upd_same, rl.set p rv⟩
        exact (q.later (Nxt.write (List.mem_of_getElem? ea))).nx (w.of (Same.refl _) (List.prefix_refl _) wr)
      · exact none_ran q
    · exact none_ran q
  · exact none_ran q
def vSetI (fo fi fv : VE) : VS := fun s => bS s.ρ (fv s) fun v m1 => bS s.ρ (fo ⟨s.ρ, m1⟩) fun o m2 => bS s.ρ (fi ⟨s.ρ, m2⟩) fun k m3 => gSetI s.ρ v o k m3
theorem ps_vsetI {o i value : Expr} {fo fi fv : VE} {pos p2 : Pos} (ho : PE X o (LE X.K W fo)) (hi : PE X i (LE X.K W fi)) (hv : PE X value (LE X.K W fv))
    (ha : ∀ v, assign (.Subscript o i p2) X.env v = (do
      let ov ← holding [v] (eval o X.env)
      let iv ← holding [v, ov] (eval i X.env)
      standAt p2
      holding [v, ov, iv] (setItem ov iv v)
      release [v, ov, iv] []) := by intro _; rfl) (hs : swapsWithSole [.Subscript o i p2] value pos.line X.env = pure false := by rfl) (hw : swappedStores [.Subscript o i p2] value X.env = pure none := by rfl)
    (h1 : (assignEach [.Subscript o i p2] X.env).map (·.2) = [assign (.Subscript o i p2) X.env] := by rfl) : PS X (.Assign [.Subscript o i p2] value pos) (LS X.K W (vSetI fo fi fv)) := PS.imp (ps_asg hv (pg_sub ho hi set_list ha) hs hw h1) fun D σ H ⟨F, A, ρ, m, w, r⟩ =>
  ⟨F, A, ρ, m, w, (Ran.bS (rS X.K) r).mono fun x H1 ⟨F1, A1, m1, v, n1, w1, rv, q1⟩ => ⟨F1, A1, ρ, m1, w1, (Ran.bS (rS X.K) q1).mono fun y H2 ⟨F2, A2, m2, d, n2, w2, rd, q2⟩ => ⟨F2, A2, ρ, m2, w2, (Ran.bS (rS X.K) q2).mono fun z H3 ⟨F3, A3, m3, k, n3, w3, rk, q3⟩ =>
    setI_go w3 (rv.next (n2.sub.trans n3.sub) (List.IsPrefix.trans n2.pre n3.pre)) (rd.next n3.sub n3.pre) rk q3⟩⟩⟩
/-- o.f += an int -/
def intFld (ok : Addr → Bool) (f : Str) (o : Sl) (m : List MO) : Option (Nat × Addr × Int) := match o with
  | .own i => match m[i]? with
    | some (.ins C fs) => if ok C = true then match fs.lookup f with
      | some (.val (.int a)) => some (i, C, a)
      | _ => none
      else none
    | _ => none
  | _ => none
def gAugF (ρ : List (Option Sl)) (f : Str) (i : Nat) (C : Addr) (a : Int) (y : Sl) (m : List MO) : R := match y with
  | .val (.int b) => match m[i]? with
    | some (.ins C' fs) => if C' = C ∧ fs.length < 1000 then some (.nx, ⟨ρ, m.set i (.ins C (putS f (.val (.int (a + b))) fs))⟩) else none
    | _ => none
  | _ => none
def vAugF (ok : Addr → Bool) (f : Str) (fo fv : VE) : VS := fun s => bS s.ρ (fo s) fun o m1 => match intFld ok f o m1 with
  | some (i, C, a) => bS s.ρ (fv ⟨s.ρ, m1⟩) fun y m2 => gAugF s.ρ f i C a y m2
  | none => none
theorem intFld_at {ok : Addr → Bool} {f : Str} {o : Sl} {m : List MO} {i : Nat} {C : Addr} {b : Int} {F : Hp} {A : List Addr} {H : Hp} {x : V} (w : Objs K F A m H) (r : RpS K F A x o) (e : intFld ok f o m = some (i, C, b)) : ok C = true ∧ ∃ a dx vs, x = .ref a ∧ A[i]? = some a ∧ H a = some (.ins C dx vs) ∧ vs.lookup f = some (.int b) := by
  unfold intFld at e
  split at e
  · rename_i j
    split at e
    · rename_i C' fs em
      split at e
      · rename_i hc
        split at e
        · rename_i b' el
          cases e
          obtain ⟨a, ea, rfl⟩ := r
          obtain ⟨fa, dx, vs, eh, rg⟩ := w.obj _ a _ ea em
          obtain ⟨v, ev, rv⟩ := rg.lookup el
          cases rv
          exact ⟨hc, a, dx, vs, rfl, ea, eh, ev⟩
        · cases e
      · cases e
    · cases e
  · cases e
theorem ps_vaugF {o value : Expr} {f : Str} {fo fv : VE} {tpos pos : Pos} (ok : Addr → Bool) (hok : FldOk X.K f ok) (ho : PE X o (LE X.K W fo)) (hv : PE X value (LE X.K W fv)) : PS X (.AugAssign (.Attribute o f tpos) .Add value pos) (LS X.K W (vAugF ok f fo fv)) := PS.imp (ps_fldaug ho hv in_add) fun D σ H ⟨F, A, ρ, m, w, r⟩ =>
  ⟨F, A, ρ, m, w, (Ran.bS (rS X.K) r).mono fun x H1 ⟨F1, A1, m1, s, n1, w1, rx, q1⟩ => by
    split at q1
    · rename_i i C b e
      obtain ⟨hc, a, dx, vs, rfl, ea, eh, ev⟩ := intFld_at w1.os rx e
      refine ⟨a, C, dx, vs, .int b, rfl, eh, (hok C hc).1, (hok C hc).2, ev, F1, A1, ρ, m1, w1, (Ran.bS (rS X.K) q1).mono fun y H2 ⟨F2, A2, m2, t, n2, w2, ry, q2⟩ => ?_⟩
      unfold gAugF at q2
      split at q2
      · rename_i b2
        split at q2
        · rename_i C' fs em
          split at q2
          · rename_i hh
            obtain ⟨rfl, hl⟩ := hh
            cases ry
            have ea2 := pre_get n2.pre ea
            obtain ⟨fa, dx2, vs2, eh2, rg⟩ := w2.os.obj i a _ ea2 em
            refine ⟨b, b2, rfl, rfl, dx2, vs2, eh2, by rw [rg.length]; exact hl, ?_⟩
            have wr := w2.os.write ea2 fa (u := .ins C' dx2 (putF f (.int (b + b2)) vs2)) (o := .ins C' (putS f (.val (.int (b + b2))) fs)) ⟨fa, dx2, _, upd_same, rg.putF (show RpS X.K F2 A2 _ (.val (.int _)) from .int _)⟩
            exact (q2.later (Nxt.write (List.mem_of_getElem? ea2))).nx (w2.of (Same.refl _) (List.prefix_refl _) wr)
          · exact none_ran q2
        · exact none_ran q2
      · exact none_ran q2
    · exact none_ran q1⟩
end
end Vs
end
section
/-! Vs29: an instance with its lists is frozen; for over an own list; xs[i] += e; constant dicts by texts; a call of a local that holds a def; C(k = ..). -/
namespace Vs
open PySem PySem.Spec PyProof.Rows L2
variable [WW]
section
variable {K : PySem.W.Frag} {W : WX} {X : Cx}
/-! ### an instance with its lists -/
def frzFs : List (Str × Sl) → List MO → Option (List (Str × T) × List MO)
  | [], m => some ([], m)
  | (x, .val t) :: r, m => match frzFs r m with
    | some (ts, m') => some ((x, t) :: ts, m')
    | none => none
  | (x, .own j) :: r, m => match m[j]? with
    | some (.lst ts) => match frzFs r (m.set j .dead) with
      | some (us, m') => some ((x, .lst ts) :: us, m')
      | none => none
    | _ => none
theorem frzFs_ok {A : List Addr} {ρ : List (Option Sl)} {σ : L2.St} {H : Hp} : ∀ {fs : List (Str × Sl)} {vs : List (Str × V)} {F : Hp} {m m' : List MO} {ts : List (Str × T)}, Wd K F A ρ m σ H → RpG K F A vs fs → frzFs fs m = some (ts, m') →
    ∃ F', Nxt F A H F' A H ∧ Wd K F' A ρ m' σ H ∧ RpF K F' vs ts ∧ ∀ (i : Nat) (C : Addr) (gs : List (Str × Sl)), m[i]? = some (MO.ins C gs) → m'[i]? = some (MO.ins C gs)
  | [], _, F, m, m', ts, w, .nil, e => by
    cases e
    exact ⟨F, Nxt.refl, w, .nil, fun _ _ _ h => h⟩
  | (x, .val t) :: r, _, F, m, m', ts, w, .cons h q, e => by
    unfold frzFs at e
    cases z : frzFs r m with
    | none => rw [z] at e; cases e
    | some p =>
      obtain ⟨us, m2⟩ := p
      rw [z] at e
      cases e
      obtain ⟨F', n, w', rf, k⟩ := frzFs_ok w q z
      exact ⟨F', n, w', .cons (Rp.same n.sub h) rf, k⟩
  | (x, .own j) :: r, _, F, m, m', ts, w, .cons h q, e => by
    unfold frzFs at e
    cases em : m[j]? with
    | none => rw [em] at e; cases e
    | some o =>
      rw [em] at e
      cases o with
      | lst us =>
        simp only at e
        cases z : frzFs r (m.set j .dead) with
        | none => rw [z] at e; cases e
        | some p =>
          obtain ⟨vs', m2⟩ := p
          rw [z] at e
          cases e
          obtain ⟨a, ea, rfl⟩ := h
          obtain ⟨fa, xs, eh, rl⟩ := w.os.obj j a _ ea em
          obtain ⟨n1, w1⟩ := freeze w ea em fa eh
          obtain ⟨F', n, w', rf, k⟩ := frzFs_ok w1 (q.next n1.sub n1.pre) z
          refine ⟨F', n1.trans n, w', .cons (Rp.lst (n.sub _ _ upd_same) (rl.same (n1.sub.trans n.sub))) rf, fun i C gs hi => k i C gs ?_⟩
          have ne : j ≠ i := fun z => by rw [z] at em; rw [hi] at em; cases em
          rw [List.getElem?_set_ne ne]
          exact hi
      | rcd _ => cases e
      | ins _ _ => cases e
      | lsO _ => cases e
      | dct _ => cases e
      | dctL _ => cases e
      | dead => cases e
def gInsD (r : Sl) (m : List MO) : M Sl := match r with
  | .own i => match m[i]? with
    | some (.ins C fs) => match frzFs fs m with
      | some (ts, m') => rM (.val (.ins C ts)) (m'.set i .dead)
      | none => none
    | some (.lst ts) => rM (.val (.lst ts)) (m.set i .dead)
    | _ => none
  | s => rM s m
def vInsD (f : VE) : VE := fun s => bM (f s) gInsD
theorem le_insD {f : VE} {σ : L2.St} {H : Hp} {Q : VK} (h : LE K W (vInsD f) σ H Q) : LE K W f σ H Q := by
  obtain ⟨F, A, ρ, m, w, got⟩ := h
  refine ⟨F, A, ρ, m, w, (Got.bind (R1 := rS K) got).mono fun x H1 ⟨F1, A1, m1, a, n1, w1, ra, q⟩ => ?_⟩
  unfold gInsD at q
  split at q
  · rename_i i
    split at q
    · rename_i C fs em
      split at q
      · rename_i ts m' et
        obtain ⟨ad, ea, rfl⟩ := ra
        obtain ⟨fa, dx, vs, eh, rg⟩ := w1.os.obj i ad _ ea em
        obtain ⟨F2, n2, w2, rf, kk⟩ := frzFs_ok w1 rg et
        obtain ⟨fa2, dx2, vs2, eh2, rg2⟩ := w2.os.obj i ad _ ea (kk _ _ _ em)
        obtain ⟨n3, w3⟩ := freezeU w2 ea fa2 eh
        exact q.fin (n2.trans n3) w3 (show RpS K _ A1 (.ref ad) (.val (.ins C ts)) from .ins upd_same (rf.same' n3.sub))
      · exact none_got q
    · rename_i ts em
      obtain ⟨ad, ea, rfl⟩ := ra
      obtain ⟨fa, xs, eh, rl⟩ := w1.os.obj i ad _ ea em
      obtain ⟨n2, w2⟩ := freeze w1 ea em fa eh
      exact q.fin n2 w2 (show RpS K _ A1 (.ref ad) (.val (.lst ts)) from .lst upd_same (rl.same n2.sub))
    · exact none_got q
  · exact q.now w1 ra
theorem pe_vinsD {e : Expr} {f : VE} (h : PE X e (LE K W f)) : PE X e (LE K W (vInsD f)) := PE.imp h fun _ _ _ => le_insD
/-! ### for over an own list -/
def vLoopO (g : VG) (b : VS) (j : Nat) : Nat → Nat → S → R
  | 0, _, _ => none
  | n + 1, i, s => match s.m[j]? with
    | some (.lst ts) => match ts[i]? with
      | none => some (.nx, s)
      | some t => match g t s.ρ with
        | none => none
        | some ρ1 => match b ⟨ρ1, s.m⟩ with
          | some (.nx, s2) => vLoopO g b j n (i + 1) s2
          | some (.ct, s2) => vLoopO g b j n (i + 1) s2
          | some (.bk, s2) => some (.nx, s2)
          | x => x
    | _ => none
def gForO (g : VG) (b : VS) (ρ : List (Option Sl)) (o : Sl) (m : List MO) : R := match o with
  | .own j => vLoopO g b j 1000 0 ⟨ρ, m⟩
  | _ => none
def vForO (f : VE) (g : VG) (b : VS) : VS := fun s => bS s.ρ (f s) fun o m => gForO g b s.ρ o m
theorem ps_vforO {tg iter : Expr} {body : List Stmt} {f : VE} {g : VG} {b : VS} {pos : Pos} (hp : PassesOwn (model X.prog X.w) X.A X.env X.xe) (hc : X.calm = true) (hi : PE X iter (LE X.K W f)) {L : List Nat} (hg : PG X tg (LG X.K L g)) (hb : PSs X body (LS X.K W b)) (hs : ∀ x, foldedSetIterable iter X.env x = pure x := by intro _; rfl) :
    PS X (.For tg iter body [] pos) (LS X.K W (vForO f g b)) := PS.imp (ps_for hp hc (pi_seq hi) hg hb hs) fun D σ H ⟨F, A, ρ, m, w, r⟩ =>
  ⟨F, A, ρ, m, w, (Ran.bS (rS X.K) r).mono fun x H1 ⟨F1, A1, m1, o, n1, w1, ro, q⟩ => by
    unfold gForO at q
    split at q
    · rename_i j
      obtain ⟨a, ea, rfl⟩ := ro
      have first : ∃ ts, m1[j]? = some (.lst ts) := by
        obtain ⟨_, _, z, _⟩ := q
        unfold vLoopO at z
        simp only at z
        split at z
        · exact ⟨_, by assumption⟩
        · cases z
      obtain ⟨ts0, em0⟩ := first
      obtain ⟨fa0, xs0, eh0, rl0⟩ := w1.os.obj j a _ ea em0
      refine ⟨a, rfl, .inl ⟨⟨xs0, SqL.of eh0⟩, fun i k τ G => ∃ F' A' ρ' m', Nxt F1 A1 H1 F' A' G ∧ Wd X.K F' A' ρ' m' τ G ∧ Ran X.K W F' A' G D (vLoopO g b j k i ⟨ρ', m'⟩), ⟨1000, F1, A1, ρ, m1, Nxt.refl, w1, q⟩, ?_⟩⟩
      rintro i k τ G ⟨F', A', ρ', m', n', w', q'⟩
      cases k with
      | zero => exact none_ran q'
      | succ k =>
        unfold vLoopO at q'
        simp only at q'
        split at q'
        · rename_i ts em
          have ea' := pre_get n'.pre ea
          obtain ⟨fa, xs, eh, rl⟩ := w'.os.obj j a _ ea' em
          have sq : SqL X.K G a xs := SqL.of eh
          split at q'
          · rename_i et
            refine .inl ⟨⟨xs, sq, ?_⟩, q'.nx w'⟩
            rw [rl.length]
            exact List.getElem?_eq_none_iff.mp et
          · rename_i t et
            obtain ⟨v, ev, rv⟩ := rl.get et
            refine .inr ⟨⟨xs, v, sq, ev⟩, fun τ2 G2 => ∃ F2 A2 ρ2 m2, Nxt F1 A1 H1 F2 A2 G2 ∧ Wd X.K F2 A2 ρ2 m2 τ2 G2 ∧ Ran X.K W F2 A2 G2 D (vLoopO g b j k (i + 1) ⟨ρ2, m2⟩), fun τ2 G2 ⟨F2, A2, ρ2, m2, n2, w2, q2⟩ => ⟨k, Nat.lt_succ_self k, F2, A2, ρ2, m2, n2, w2, q2⟩, fun x G3 y => ?_⟩
            obtain ⟨rfl, y⟩ := y
            have ex := y xs sq
            rw [ev] at ex
            cases ex
            match eg : g t ρ', q' with
            | none, q' => obtain ⟨_, _, z, _⟩ := q'; cases z
            | some ρ1, q' =>
              refine ⟨F', A', ρ', m', t, ρ1, w', rv, eg, fun σ' w4 _ => ?_⟩
              refine ⟨F', A', ρ1, m', w4, ?_⟩
              match eb : b ⟨ρ1, m'⟩, q' with
              | none, q3 => obtain ⟨_, _, z, _⟩ := q3; simp only [eb] at z; cases z
              | some (.nx, s2), q3 => exact ⟨_, _, rfl, fun F5 A5 σ5 H5 n5 w5 => ⟨F5, A5, s2.ρ, s2.m, n'.trans n5, w5, by simp only [eb] at q3; exact q3.later n5⟩⟩
              | some (.ct, s2), q3 => exact ⟨_, _, rfl, fun F5 A5 σ5 H5 n5 w5 => ⟨F5, A5, s2.ρ, s2.m, n'.trans n5, w5, by simp only [eb] at q3; exact q3.later n5⟩⟩
              | some (.bk, s2), q3 =>
                simp only [eb] at q3
                obtain ⟨_, _, z, h⟩ := q3
                cases z
                exact ⟨_, _, rfl, h⟩
              | some (.rt r, s2), q3 =>
                simp only [eb] at q3
                obtain ⟨_, _, z, h⟩ := q3
                cases z
                exact ⟨_, _, rfl, h⟩
              | some (.ex C fs, s2), q3 =>
                simp only [eb] at q3
                obtain ⟨_, _, z, h⟩ := q3
                cases z
                exact ⟨_, _, rfl, h⟩
        · exact none_ran q'
    · exact none_ran q⟩
/-! ### xs[i] += e -/
def rGetL (K : PySem.W.Frag) : V → V → Hp → VK → Prop := fun o i H Q => ∃ p xs k v, o = .ref p ∧ i = .int k ∧ SqL K H p xs ∧ 0 ≤ k ∧ atI xs k = some v ∧ Q v H
theorem get_list : PGet X (rGetL X.K) := by
  intro pins s σ H o i ov iv Q I ro ri h
  obtain ⟨p, xs, k, z, rfl, rfl, hq, hk, he, q⟩ := h
  cases ro
  obtain ⟨t, rfl⟩ := ri
  obtain ⟨its, r, pl, hz⟩ := I.list hq
  obtain ⟨j, h1, h2, h3, h4, h5⟩ := atI_get he
  obtain ⟨w, ew, rw'⟩ := r.get h2
  have hl := r.length
  have hn := line63
  have hj : k.toNat = j := by
    rw [seqIndex_of hk h5] at h1
    exact Option.some.inj h1
  exact wpAny_getItem_list pl.isList hk (by omega) (by rw [hj]; simpa using ew) ⟨z, H, I, rw', q⟩
def lstAt (o k : Sl) (m : List MO) : Option (Nat × Nat × Int) := match o, k with
  | .own j, .val (.int i) => match m[j]? with
    | some (.lst ts) => if 0 ≤ i then match ts[i.toNat]? with
      | some (.int a) => some (j, i.toNat, a)
      | _ => none
      else none
    | _ => none
  | _, _ => none
def gAugI (ρ : List (Option Sl)) (j p : Nat) (a : Int) (y : Sl) (m : List MO) : R := match y with
  | .val (.int b) => match m[j]? with
    | some (.lst ts) => if p < ts.length then some (.nx, ⟨ρ, m.set j (.lst (ts.set p (.int (a + b))))⟩) else none
    | _ => none
  | _ => none
def vAugI (fo fi fv : VE) : VS := fun s => bS s.ρ (fo s) fun o m1 => bS s.ρ (fi ⟨s.ρ, m1⟩) fun k m2 => match lstAt o k m2 with
  | some (j, p, a) => bS s.ρ (fv ⟨s.ρ, m2⟩) fun y m3 => gAugI s.ρ j p a y m3
  | none => none
theorem lstAt_at {o k : Sl} {m : List MO} {j p : Nat} {b : Int} {F : Hp} {A : List Addr} {H : Hp} {x z : V} (w : Objs K F A m H) (ro : RpS K F A x o) (rk : RpS K F A z k) (e : lstAt o k m = some (j, p, b)) :
    ∃ a xs i, x = .ref a ∧ z = .int i ∧ A[j]? = some a ∧ H a = some (.lst xs) ∧ 0 ≤ i ∧ i.toNat = p ∧ xs[p]? = some (.int b) := by
  unfold lstAt at e
  split at e
  · rename_i j' i
    split at e
    · rename_i ts em
      split at e
      · rename_i h0
        split at e
        · rename_i a' et
          cases e
          obtain ⟨a, ea, rfl⟩ := ro
          obtain ⟨fa, xs, eh, rl⟩ := w.obj _ a _ ea em
          obtain ⟨v, ev, rv⟩ := rl.get et
          cases rv
          cases rk
          exact ⟨a, xs, i, rfl, rfl, ea, eh, h0, rfl, ev⟩
        · cases e
      · cases e
    · cases e
  · cases e
theorem ixN_nat {n p : Nat} {i : Int} (h0 : 0 ≤ i) (e : i.toNat = p) (h : p < n) : ixN n i = some p := by
  unfold ixN
  rw [if_pos h0, if_pos (by omega), e]
theorem ps_vaugI {o i value : Expr} {fo fi fv : VE} {tpos pos : Pos} (ho : PE X o (LE X.K W fo)) (hi : PE X i (LE X.K W fi)) (hv : PE X value (LE X.K W fv))
    (ha : ∀ ov iv new, augStore i ov iv new = (do holding [new, ov, iv] (setItem ov iv new); release [new, ov, iv] []; pure .next) := by intros; rfl) : PS X (.AugAssign (.Subscript o i tpos) .Add value pos) (LS X.K W (vAugI fo fi fv)) := PS.imp (ps_augS ho hi get_list hv ip_add set_list ha) fun D σ H ⟨F, A, ρ, m, w, r⟩ =>
  ⟨F, A, ρ, m, w, (Ran.bS (rS X.K) r).mono fun x H1 ⟨F1, A1, m1, s, n1, w1, rx, q1⟩ => ⟨F1, A1, ρ, m1, w1, (Ran.bS (rS X.K) q1).mono fun z H2 ⟨F2, A2, m2, k, n2, w2, rz, q2⟩ => by
    split at q2
    · rename_i j p b e
      obtain ⟨a, xs, i, rfl, rfl, ea, eh, h0, hp, ev⟩ := lstAt_at w2.os (rx.next n2.sub n2.pre) rz e
      have hl : p < xs.length := (List.getElem?_eq_some_iff.mp ev).1
      refine ⟨a, xs, i, .int b, rfl, rfl, SqL.of eh, h0, by unfold atI; rw [ixN_nat h0 hp hl]; exact ev, F2, A2, ρ, m2, w2, (Ran.bS (rS X.K) q2).mono fun y H3 ⟨F3, A3, m3, t, n3, w3, ry, q3⟩ => ?_⟩
      unfold gAugI at q3
      split at q3
      · rename_i b2
        split at q3
        · rename_i ts em
          split at q3
          · rename_i hh
            cases ry
            have ea3 := pre_get n3.pre ea
            obtain ⟨fa, xs3, eh3, rl⟩ := w3.os.obj j a _ ea3 em
            refine ⟨b, b2, rfl, rfl, a, xs3, i, p, rfl, rfl, eh3, ixN_nat h0 hp (by rw [rl.length]; exact hh), ?_⟩
            have wr := w3.os.write ea3 fa (u := .lst (xs3.set p (.int (b + b2)))) (o := .lst (ts.set p (.int (b + b2)))) ⟨fa, _, upd_same, rl.set p (.int _)⟩
            exact (q3.later (Nxt.write (List.mem_of_getElem? ea3))).nx (w3.of (Same.refl _) (List.prefix_refl _) wr)
          · exact none_ran q3
        · exact none_ran q3
      · exact none_ran q3
    · exact none_ran q2⟩⟩
/-! ### constant dicts by texts -/
structure KDv (K : PySem.W.Frag) (w : World) (mg : Str → Option Value) (x : Str) (tab : Str → Option T) where
  d : Addr
  m : mg x = some (.ref d)
  r : ∀ z t, tab z = some t → ∃ v, KDct K w d z v ∧ ∀ F, Rp K F v t
def gKd (tab : Str → Option T) (s : Sl) (m : List MO) : M Sl := match s with
  | .val (.str z) => match tab z with
    | some t => rM (.val t) m
    | none => none
  | _ => none
def vKd (tab : Str → Option T) (f : VE) : VE := fun s => bM (f s) (gKd tab)
theorem pe_vkd {x : Str} {tab : Str → Option T} {f : VE} {i : Expr} {p pos : Pos} (D : KDv X.K X.w X.mg x tab) (hg : Gl X x) (hi : PE X i (LE X.K W f)) (hs : PlainIx i) (hd : (x == ("__debug__" : Str)) = false := by decide) : PE X (.Subscript (.Name x p) i pos) (LE X.K W (vKd tab f)) := PE.imp (pe_ix ix_kdict (pe_glob (v := .ref D.d) hg D.m rfl hd) hi hs) fun σ H Q ⟨F, A, ρ, m, w, g⟩ =>
  (show LE X.K W f σ H (fun y H2 => rIxD X.K X.w (.ref D.d) y H2 Q) from ⟨F, A, ρ, m, w, (Got.bind (R1 := rS X.K) g).mono fun y H1 ⟨F1, A1, m1, s, n1, w1, ry, q⟩ => by
    unfold gKd at q
    split at q
    · rename_i z
      split at q
      · rename_i t et
        obtain ⟨v, kd, rp⟩ := D.r z t et
        cases ry
        exact ⟨D.d, z, v, rfl, rfl, kd, q.now w1 (show RpS X.K F1 A1 v (.val t) from rp F1)⟩
      · exact none_got q
    · exact none_got q⟩)
structure KDi (K : PySem.W.Frag) (w : World) (mg : Str → Option Value) (x : Str) (tab : Str → Option Bool) where
  d : Addr
  es : Array DictEntry
  n : Nat
  m : mg x = some (.ref d)
  kd : KDict K w d es n
  r : ∀ z b, tab z = some b → ∃ o, PySem.W.nsIn K d z = some o ∧ o.isSome = b
end
end Vs
end
section
/-! Vs30: defs with defaults; in a constant dict; a call of a local def; C(k = ..); x, *rest = xs. -/
namespace Vs
open PySem PySem.Spec PyProof.Rows L2
variable [WW]
section
variable {P : Program} {w : World} {K : PySem.W.Frag} {mg : Str → Option Value} {base : Heap}
theorem okVD {x qual : Str} {st : Stmt} {f : Addr} {fd : FuncData} {dvs : List V} {N ps : List Str} {k : Nat} {b : VS} (F : FunD K x qual (defArgs st) (defBody st) (defScope st) dvs [] f fd) (S : FnScope N ps (defScope st))
    (hb : ∀ (cdv : Value) (A : Around) (outer : List Env) (s : Shared) (H : Hp) (E : XK), Room k (A.deeper (envOfC qual (defScope st) s.heap.objs.size f cdv)) →
      PSs (cxOf (L2.CX P w) P w K mg base N qual (defScope st) f cdv A outer s H E) (defBody st) (LS K (fun cls d _ H => E cls d H) b)) : FnOk P w K mg base (L2.CX P w) (k + 1) f fd ps (SpV K ps.length (vDef N.length b)) := by
  refine F.ok S (fun vs H Q E h => h.1) (fun cdv A outer s H vs Q E hr h => ⟨_, hb cdv A outer s H E hr, ?_⟩)
  obtain ⟨hl, F0, A0, args, m, o, r, out, m', ev, hq⟩ := h
  unfold vDef at ev
  refine ⟨F0, A0, _, m, wd_start (N := N) o r, ?_⟩
  split at ev
  · rename_i rr s' eb
    cases ev
    exact ⟨_, _, eb, fun F' A' σ' v H' n w' rv => hq F' A' v H' n w'.os rv⟩
  · rename_i s' eb
    cases ev
    exact ⟨_, _, eb, fun F' A' σ' H' n w' => hq F' A' .non H' n w'.os (show Rp K F' .non .non from .non)⟩
  · rename_i C fs s' eb
    cases ev
    exact ⟨_, _, eb, fun F' A' σ' d ws H' n w' rf hd => hq F' A' d ws H' n w'.os rf hd⟩
  · cases ev
end
section
variable {K : PySem.W.Frag} {W : WX} {X : Cx}
/-! ### in a constant dict -/
def gKi (neg : Bool) (tab : Str → Option Bool) (a : Sl) (m : List MO) : M Sl := match a with
  | .val (.str z) => match tab z with
    | some b => rM (.val (.bl (if neg then !b else b))) m
    | none => none
  | _ => none
def vKi (neg : Bool) (tab : Str → Option Bool) (f : VE) : VE := fun s => bM (f s) (gKi neg tab)
theorem pe_vinKd {x : Str} {tab : Str → Option Bool} {f : VE} {a : Expr} {p pos : Pos} (D : KDi X.K X.w X.mg x tab) (hg : Gl X x) (hm : behindInMarks .In (.Name x p) = false) (ha : PE X a (LE X.K W f)) (hd : (x == ("__debug__" : Str)) = false := by decide) : PE X (.Compare a [.In] [.Name x p] pos) (LE X.K W (vKi false tab f)) := PE.imp (pe_cmpR (op_in_kd D.kd) ha (pe_glob (v := .ref D.d) hg D.m rfl hd) hm) fun σ H Q ⟨F, A, ρ, m, w, g⟩ =>
  ⟨F, A, ρ, m, w, (Got.bind (R1 := rS X.K) g).mono fun y H1 ⟨F1, A1, m1, s, n1, w1, ry, q⟩ => by
    unfold gKi at q
    split at q
    · rename_i z
      split at q
      · rename_i b eb
        obtain ⟨o, e1, e2⟩ := D.r z b eb
        cases ry
        refine ⟨z, o, rfl, rfl, e1, ?_⟩
        rw [e2]
        exact q.now w1 (show RpS X.K F1 A1 (.bl b) (.val (.bl b)) from .bl b)
      · exact none_got q
    · exact none_got q⟩
theorem pt_vinKd {x : Str} {tab : Str → Option Bool} {f : VE} {a : Expr} {p pos : Pos} (D : KDi X.K X.w X.mg x tab) (hg : Gl X x) (hm : behindInMarks .In (.Name x p) = false) (ha : PE X a (LE X.K W f)) (hd : (x == ("__debug__" : Str)) = false := by decide) : PT X (.Compare a [.In] [.Name x p] pos) (LT X.K W (vTest (vKi false tab f))) := PT.imp (pt_cmpR (op_in_kd D.kd) ha (pe_glob (v := .ref D.d) hg D.m rfl hd) hm) fun σ H Q h => by
  obtain ⟨F, A, ρ, m, w, g⟩ := lt_test h
  refine ⟨F, A, ρ, m, w, (Got.bind (R1 := rS X.K) g).mono fun y H1 ⟨F1, A1, m1, s, n1, w1, ry, q⟩ => ?_⟩
  unfold gKi at q
  split at q
  · rename_i z
    split at q
    · rename_i b eb
      obtain ⟨o, e1, e2⟩ := D.r z b eb
      cases ry
      refine ⟨z, o, rfl, rfl, e1, ?_⟩
      rw [e2]
      exact q.now w1 (show RpS X.K F1 A1 (.bl b) (.val (.bl b)) from .bl b)
    · exact none_got q
  · exact none_got q
/-! ### a local that holds a def -/
structure DT (P : Program) (w : World) (K : PySem.W.Frag) (mg : Str → Option Value) (base : Heap) (kk np : Nat) (f : Addr) (vf : VF) : Prop where
  ex : ∃ (k : Nat) (fd : FuncData) (ps : List Str), k ≤ kk ∧ FnOk P w K mg base (L2.CX P w) k f fd ps (SpV K np vf) ∧ PySem.W.keepIn K (.ref f) = true ∧ Binds K fd ps []
def vCallT (i : Nat) (tb : Addr → Option VF) (fa : VA) : VE := fun s => match s.ρ[i]? with
  | some (some (.val (.cst (.ref f)))) => match tb f with
    | some vf => bM (fa s) fun ss m => callM vf ss m
    | none => none
  | _ => none
theorem pe_vcallT {i np kk : Nat} {tb : Addr → Option VF} {fa : VA} {x : Str} {e : Expr} {es : List Expr} {p pos : Pos} (hT : ∀ f vf, tb f = some vf → DT X.prog X.w X.K X.mg X.base kk np f vf) (hr : Room kk X.A) (hN : X.N[i]? = some x) (hv : Vis X.env.scope x) (tk : Takes X W) (ha : PA X (e :: es) (LA X.K W fa)) (hn : ∀ s ss m, fa s = some (.ok ss, m) → ss.length = np)
    (hdb : (x == ("__debug__" : Str)) = false := by decide) (hcd : (x == ("__classdict__" : Str)) = false := by decide) (he : starEach (e :: es) X.env = (false, eval e X.env) :: starEach es X.env := by rfl) (hpl : (backTo pos (starEach es X.env)).any (·.1) = false := by rfl) :
    PE X (.Call (.Name x p) (e :: es) [] pos) (LE X.K W (vCallT i tb fa)) := by
  refine ⟨fun pins s σ H Q I ⟨F, A, ρ, m, w, g⟩ => ?_⟩
  unfold vCallT at g
  split at g
  · rename_i f ef
    split at g
    · rename_i vf ev
      obtain ⟨k, fd, ps, hk, G, kp, hb⟩ := (hT f vf ev).ex
      obtain ⟨v, es, rv⟩ := w.slot i _ ef
      cases rv
      refine wpAny_Call_Name_kw (thn ((pe_var (pos := p) hN hv hdb hcd).run pins s σ H (fun v H1 => v = .ref f ∧ H1 = H) I ⟨.ref f, es, rfl, rfl⟩) fun u s1 ⟨v, H1, I1, r1, q1⟩ => ?_)
      obtain ⟨rfl, rfl⟩ := q1
      cases r1
      have h2 : tCallS (SpV X.K np vf) (WE W) (LA X.K W fa) σ H1 Q := le_call hn ⟨F, A, ρ, m, w, g⟩
      refine PySem.W.callWith_K (h₀ := X.base) I.ok.mod.kin kp (thn (ha.run pos pins s1 σ _ _ I1 h2) fun us s2 ⟨vs, H2, I2, r, q⟩ => ⟨I2.kIn, ?_⟩) he hpl
      exact run_fnS G (hr.mono hk) hb (passAt tk σ) I2 r q
    · exact none_got g
  · exact none_got g
/-! ### C(k = ..), nothing is raised in making -/
end
/-! ### x, *rest = xs -/
section
open PySem.W PyProof.Rows
end
section
variable {W : WX} {X : Cx}
end
end Vs
end
section
/-! Vs31: a list times an int, a text times an int; what is never reached; records of facts. -/
namespace Vs
open PySem PySem.Spec PyProof.Rows L2
variable [WW]
section
variable {K : PySem.W.Frag} {W : WX} {X : Cx}
theorem RpL.repl {F : Hp} {xs : List V} {ts : List T} (r : RpL K F xs ts) : ∀ n, RpL K F (List.replicate n xs).flatten (List.replicate n ts).flatten
  | 0 => .nil
  | n + 1 => by rw [List.replicate_succ, List.replicate_succ, List.flatten_cons, List.flatten_cons]; exact r.append (RpL.repl r n)
instance (x : Str) (n : Int) : Decidable (MulOk x n) := by unfold MulOk; infer_instance
theorem pe_vgt {a b : Expr} {fa fb : VE} {pos : Pos} (ha : PE X a (LE X.K W fa)) (hb : PE X b (LE X.K W fb)) : PE X (.Compare a [.Gt] [b] pos) (LE X.K W (vBin (gInt fun i j => .bl (decide (j < i))) fa fb)) := pe_vcmp op_gt (ov_int fun _ _ _ => .bl _) ha hb (nobehind _ (by decide) (by decide))
theorem pe_vnotInF {a b : Expr} {fa fb : VE} {pos : Pos} (hm : behindInMarks .NotIn b = false) (ha : PE X a (LE X.K W fa)) (hb : PE X b (LE X.K W fb)) : PE X (.Compare a [.NotIn] [b] pos) (LE X.K W (vBin (gInFlat true) fa fb)) := pe_vcmp op_notIn_seq ov_inFlat ha hb hm
/-- a body of which nothing is said -/
theorem pss_none {sts : List Stmt} : PSs X sts (LS K W fun _ => none) := ⟨fun pins s σ H D I h => by obtain ⟨_, _, _, _, _, r⟩ := h; exact none_ran r⟩
end
/-- a class that is made by keywords, in the order of its parameters -/
structure MIK (P : Program) (w : World) (K : PySem.W.Frag) (mg : Str → Option Value) (base : Heap) (k np : Nat) (x : Str) (C : Addr) (vf : VF) (ks : List Str) where
  f : Addr
  fd : FuncData
  ps : List Str
  gg : List Value → List Value → List Value
  mks : Mk K C f
  g : FnOk P w K mg base (L2.CX P w) k f fd ps (SpV K np vf)
  kb : KBn K fd ps 1 ks gg fun vs zs => vs ++ zs
  m : mg x = some (.ref C)
end Vs
end
section
/-! Vs32: what the facts of a law's end are made of. -/
namespace Vs
open PySem PySem.Spec PyProof.Rows L2
variable [WW]
theorem ma0 {p : Addr → Prop} : ∀ C ∈ ([] : List Addr), p C := fun _ h => nomatch h
theorem ma1 {p : Addr → Prop} {a : Addr} {l : List Addr} (h : p a) (r : ∀ C ∈ l, p C) : ∀ C ∈ a :: l, p C := List.forall_mem_cons.mpr ⟨h, r⟩
section
variable {K : PySem.W.Frag}
theorem fldOk_of {f : Str} {l : List Addr} (h : ∀ C ∈ l, Cls K C ∧ NoAttr K C f) : FldOk K f (fun C => decide (C ∈ l)) := fun C e => h C (of_decide_eq_true e)
theorem own_of {P : Program} {w : World} {mg : Str → Option Value} {base : Heap} {gs : Addr} {l : List Addr} (h : ∀ C ∈ l, ∃ ge, Own.OwnC K C gs ge) : ∀ C, (fun C => decide (C ∈ l)) C = true → ∃ ge, Own.OwnC K C gs ge := fun C e => h C (of_decide_eq_true e)
theorem kit_own {t : Value} {C : Addr} {b : Bool} (h1 : PySem.W.isClsIn K C = true) (h2 : PySem.W.typeIn K (.ref C) = some (.type "type")) (h3 : PySem.W.subIn K t (.ref C) = some b) (h0 : (t == .ref C) = false ∨ b = true) : PySem.W.kitOne K t (.ref C) = some b := by
  unfold PySem.W.kitOne
  split
  · rename_i e
    rcases h0 with h0 | h0
    · rw [h0] at e; cases e
    · rw [h0]
  · have e : ((PySem.W.clsIn K C).isSome && PySem.W.typeIn K (.ref C) == some (.type "type")) = true := by
      have h1' : (PySem.W.clsIn K C).isSome = true := h1
      rw [h1', h2]; rfl
    show (if ((PySem.W.clsIn K C).isSome && PySem.W.typeIn K (.ref C) == some (.type "type")) = true then PySem.W.subIn K t (.ref C) else none) = some b
    rw [if_pos e]
    exact h3
theorem kit_tp {C : Addr} {T : String} {b : Bool} (hm : PySem.W.kitMeta T = true) (h : PySem.W.subIn K (.ref C) (.type T) = some b) : PySem.W.kitOne K (.ref C) (.type T) = some b := by
  have e : ((Value.ref C) == (Value.type T)) = false := beq_eq_false_iff_ne.mpr fun z => nomatch z
  show (if ((Value.ref C) == (Value.type T)) = true then some true else if PySem.W.kitMeta T = true then PySem.W.subIn K (.ref C) (.type T) else none) = some b
  rw [e, if_neg Bool.false_ne_true, if_pos hm]
  exact h
theorem bfR {x y : Addr} (h : x ≠ y) : (Value.ref x == Value.ref y) = false := beq_eq_false_iff_ne.mpr fun z => h (Value.ref.inj z)
theorem insTy_of {C : Addr} (cl : Cls K C) (ca : PySem.W.findIn K (.ref C) "__class__" = some (some (.builtin "object.__class__"))) (cn : PySem.W.specialIn K (.builtin "object.__class__") "__get__" = some (some (.builtin "getset_descriptor.__get__"))) (ct : PySem.W.takesIn K (.builtin "object.__class__") = some true) (cm : PySem.W.mroIn K C (.type "object") = some true) : InsTy K C :=
  fun H a dx fs h => .base (.ins h cl ca cn ct cm)
/-- a table of two lists of classes -/
theorem ct_of {u : Value} {l1 l2 : List Addr} (h1 : ∀ C ∈ l1, PySem.W.kitOne K (.ref C) u = some true ∧ InsTy K C) (h2 : ∀ C ∈ l2, PySem.W.kitOne K (.ref C) u = some false ∧ InsTy K C) : CtOk K u (fun C => if C ∈ l1 then some true else if C ∈ l2 then some false else none) := fun C b e => by
  simp only at e
  split at e
  · rename_i h; cases e; exact h1 C h
  · split at e
    · rename_i h; cases e; exact h2 C h
    · cases e
theorem ctB_of {u : Value} {l : List Addr} (h : ∀ C ∈ l, PySem.W.kitOne K (.ref C) u = some false ∧ InsTy K C) : CtOk K u (fun C => if C ∈ l then some false else none) := fun C b e => by
  simp only at e
  split at e
  · rename_i h'; cases e; exact h C h'
  · cases e
/-- isinstance(.., an own class): nothing built-in is -/
theorem isT_own {D : Addr} {ct : Addr → Option Bool} (iD : PySem.W.isClsIn K D = true) (tD : PySem.W.typeIn K (.ref D) = some (.type "type")) (n1 : PySem.W.subIn K (.type "NoneType") (.ref D) = some false) (n2 : PySem.W.subIn K (.type "bool") (.ref D) = some false) (n3 : PySem.W.subIn K (.type "int") (.ref D) = some false)
    (n4 : PySem.W.subIn K (.type "str") (.ref D) = some false) (n5 : PySem.W.subIn K (.type "list") (.ref D) = some false) (n6 : PySem.W.subIn K (.type "tuple") (.ref D) = some false) (hc : CtOk K (.ref D) ct) : IsT K [.ref D] (tyTab (fun _ => false) ct) := isT1 (fun y hy => by
  have z : ∀ T : String, ((Value.type T) == (Value.ref D)) = false := fun T => beq_eq_false_iff_ne.mpr fun z => nomatch z
  cases y with
  | cls C => exact absurd rfl (hy C)
  | non => exact kit_own iD tD n1 (.inl (z _))
  | bl => exact kit_own iD tD n2 (.inl (z _))
  | int => exact kit_own iD tD n3 (.inl (z _))
  | str => exact kit_own iD tD n4 (.inl (z _))
  | lst => exact kit_own iD tD n5 (.inl (z _))
  | tup => exact kit_own iD tD n6 (.inl (z _))) hc
theorem KTup.of {a : Addr} {xs : List V} {its : List Value} {n : Nat} {od : Option Addr} {sl : Array (Option Value)} (l : K.lookup a = some ⟨.type "tuple", od, .seq its.toArray n, sl⟩) (hz : its.length ≤ 1000) (r : Vals xs its) (H : Hp) : SqT K H a xs :=
  .inr ⟨_, its.toArray, n, l, rfl, rfl, by rw [List.size_toArray]; exact Nat.le_trans hz (by decide), r⟩
theorem fund_mk {x qual : Str} {params : Arguments} {body : List Stmt} {scope : Scope} {dvs : List V} {f T : Addr} {oc kV doc pm cd ct tc : Value} {od an td : Option Addr} {osl tsl : Array (Option Value)} {its : List Value} {n : Nat}
    (l : K.lookup f = some ⟨oc, od, .func (PySem.W.fnOf x qual params body scope (.ref T) kV doc pm an cd ct), osl⟩) (c : PySem.W.codeIn K cd qual = true) (t : K.lookup T = some ⟨tc, td, .seq its.toArray n, tsl⟩) (v : Vals dvs its) (hd : dvs ≠ []) (k : PySem.W.keepIn K (.ref f) = true) :
    FunD K x qual params body scope dvs [] f (PySem.W.fnOf x qual params body scope (.ref T) kV doc pm an cd ct) :=
  ⟨⟨oc, od, .ref T, kV, doc, pm, an, cd, ct, osl, rfl, l, c, .inr ⟨hd, T, _, its, n, rfl, t, rfl, v⟩, .inl rfl⟩, k⟩
theorem cmet_mk {C p g : Addr} {mc : Value} {m : Str} {rest : List Value} (h1 : PySem.W.findCls K (.ref C) mc m = some (.get (.builtin "classmethod.__get__") (.ref p) .none (.ref C))) (h2 : PySem.W.recIn K p "classmethod" = some (.ref g :: rest)) (h3 : PySem.W.fnIn K g = true) : ClX.CMet K C mc m p g := ⟨h1, ⟨rest, h2⟩, h3⟩
/-- tables of defs by address -/
theorem tb0 {p : Addr → VF → Prop} : ∀ C vf, (none : Option VF) = some vf → p C vf := fun _ _ e => nomatch e
theorem tb1 {p : Addr → VF → Prop} {C0 : Addr} {v0 : VF} {rest : Addr → Option VF} (h : p C0 v0) (r : ∀ C vf, rest C = some vf → p C vf) : ∀ C vf, (if C = C0 then some v0 else rest C) = some vf → p C vf := fun C vf e => by
  split at e
  · rename_i z; cases e; subst z; exact h
  · exact r C vf e
/-- constant dicts -/
theorem kt0 {p : Str → T → Prop} : ∀ z t, (none : Option T) = some t → p z t := fun _ _ e => nomatch e
theorem kt1 {p : Str → T → Prop} {k : Str} {u : T} {rest : Str → Option T} (h : p k u) (r : ∀ z t, rest z = some t → p z t) : ∀ z t, (if z = k then some u else rest z) = some t → p z t := fun z t e => by
  split at e
  · rename_i q; cases e; subst q; exact h
  · exact r z t e
theorem kb0 {p : Str → Bool → Prop} : ∀ z b, (none : Option Bool) = some b → p z b := fun _ _ e => nomatch e
theorem kb1 {p : Str → Bool → Prop} {k : Str} {u : Bool} {rest : Str → Option Bool} (h : p k u) (r : ∀ z b, rest z = some b → p z b) : ∀ z b, (if z = k then some u else rest z) = some b → p z b := fun z b e => by
  split at e
  · rename_i q; cases e; subst q; exact h
  · exact r z b e
theorem kdct_of {w : World} {a : Addr} {es : Array DictEntry} {n : Nat} {x : Str} {u : Value} {v : V} (D : KDict K w a es n) (h : PySem.W.nsIn K a x = some (some u)) (r : RelV v u) : KDct K w a x v := ⟨es, n, u, D.at_, D.lit, h, r⟩
end
section
variable {P : Program} {w : World} {K : PySem.W.Frag} {mg : Str → Option Value} {base : Heap}
theorem none_ok {x qual : Str} {st : Stmt} {f : Addr} {fd : FuncData} {N ps : List Str} (F : Fun K x qual st f fd) (S : FnScope N ps (defScope st)) : FnOk P w K mg base (L2.CX P w) 1 f fd ps (SpV K ps.length (vDef N.length fun _ => none)) := okV (k := 0) F S fun cdv A outer s H E hr => pss_none
end
theorem cx_end {P : Program} {w : World} {H : Hp} {s s' : Shared} {e : Value} (h : L2.CX P w [] H s (fun _ _ _ => False) e s') : False := by
  obtain ⟨_, _, _, _, _, _, _, _, _, _, _, _, z⟩ := h
  exact z
theorem ints_rp {K : PySem.W.Frag} {F : Hp} : ∀ ns : List Int, RpL K F (ns.map V.int) (ns.map T.int)
  | [] => .nil
  | n :: r => .cons (.int n) (ints_rp r)
/-- the heap without the tables -/
def noTbl (H : Hp) : Hp := fun b => match H b with
  | some (.tbl _) => none
  | o => o
theorem noTbl_sub (H : Hp) : Same (noTbl H) H := fun b u e => by
  unfold noTbl at e
  split at e
  · cases e
  · exact e
theorem noTbl_of {H : Hp} {b : Addr} {o : HO} (h : H b = some o) (n : ∀ ps, o ≠ .tbl ps := by (intro _ z; cases z)) : noTbl H b = some o := by
  unfold noTbl
  split
  · rename_i ps e
    rw [h] at e
    exact absurd (Option.some.inj e) (n ps)
  · exact h
theorem noTbl_none {H : Hp} {b : Addr} {ps : Array Value} (h : H b = some (.tbl ps)) : noTbl H b = none := by
  unfold noTbl
  rw [h]
/-- a law that answers True to every script -/
theorem law_sp [WW] {K : PySem.W.Frag} {vf : VF} {n : Nat} (h : ∀ ns : List Int, ns.length ≤ n → ∃ m', vf [.val (.seq (ns.map T.int))] [] = some (.ok (.val (.bl true)), m')) (H : Hp) (a : Addr) (ns : List Int) (hl : ns.length ≤ n) (hS : SqL K H a (ns.map V.int))
    (hg : WW.g = fun _ => none := by rfl) (ht : ∀ p ∈ WW.tb, H p.1 = some (.tbl #[]) := by (intro p h; cases h)) :
    SpV K 1 vf [.ref a] H (fun v _ => v = .bl true) fun _ _ _ => False := by
  obtain ⟨m', e⟩ := h ns hl
  have hS2 : SqL K (noTbl H) a (ns.map V.int) := by
    rcases hS with (z | ⟨o, z⟩) | z
    · exact .inl (.inl (noTbl_of z))
    · exact .inl (.inr ⟨o, noTbl_of z⟩)
    · exact .inr z
  refine ⟨rfl, noTbl H, [], [.val (.seq (ns.map T.int))], [], ⟨noTbl_sub H, rfl, List.nodup_nil, fun _ h => (nomatch h), fun i a o h => by simp at h, fun b u z => (by rw [hg] at z; cases z), fun p hp => ⟨fun z => (nomatch z), noTbl_none (ht p hp), #[], ht p hp, True.intro, fun pos cv hc => by
    have z : codeAmong pos [] = some cv := hc
    simp [codeAmong] at z⟩⟩, .cons (show Rp K (noTbl H) (.ref a) (.seq (ns.map T.int)) from .seq hS2 (ints_rp ns)) .nil, _, m', e, ?_⟩
  intro F' A' v H' n' o r
  cases r
  rfl
end Vs
end
section
/-! DictN: dicts whose keys are tuples of any depth. -/
namespace Vs
open PySem PySem.Spec PyProof.Rows L2
/-! ### keys -/
mutual
inductive NKey (K : PySem.W.Frag) (H : Hp) : V → NestedKey → Prop
  | non : NKey K H .non .none
  | bl (b : Bool) : NKey K H (.bl b) (.num (if b = true then 1 else 0))
  | int (i : Int) : NKey K H (.int i) (.num i)
  | str (x : Str) : NKey K H (.str x) (.text x)
  | tup {a : Addr} {xs : List V} {ks : List NestedKey} : SqT K H a xs → NKeys K H xs ks → NKey K H (.ref a) (.tup ks)
inductive NKeys (K : PySem.W.Frag) (H : Hp) : List V → List NestedKey → Prop
  | nil : NKeys K H [] []
  | cons {v : V} {vs : List V} {k : NestedKey} {ks : List NestedKey} : NKey K H v k → NKeys K H vs ks → NKeys K H (v :: vs) (k :: ks)
end
section
variable {K : PySem.W.Frag} {F H : Hp}
mutual
theorem rp_nkey (e : Same F H) : ∀ {v : V} {t : T} {k : NestedKey}, Rp K F v t → nkOf t = some k → NKey K H v k
  | _, _, k, .non, h => by unfold nkOf at h; cases h; exact .non
  | _, _, k, .bl b, h => by unfold nkOf at h; cases h; exact .bl b
  | _, _, k, .int i, h => by unfold nkOf at h; cases h; exact .int i
  | _, _, k, .str x, h => by unfold nkOf at h; cases h; exact .str x
  | _, .tup ts, k, .tup a r, h => by
    unfold nkOf at h
    cases z : nksOf ts with
    | none => rw [z] at h; cases h
    | some ks => rw [z] at h; cases h; exact .tup (sqT_same e a) (rpL_nkeys e r z)
  | _, _, k, .lst a r, h => by unfold nkOf at h; cases h
  | _, _, k, .seq a r, h => by unfold nkOf at h; cases h
  | _, _, k, .ins a r, h => by unfold nkOf at h; cases h
  | _, _, k, .cst v, h => by unfold nkOf at h; cases h
theorem rpL_nkeys (e : Same F H) : ∀ {vs : List V} {ts : List T} {ks : List NestedKey}, RpL K F vs ts → nksOf ts = some ks → NKeys K H vs ks
  | _, _, ks, .nil, h => by unfold nksOf at h; cases h; exact .nil
  | _, t :: r, ks, .cons a q, h => by
    unfold nksOf at h
    split at h
    · rename_i k ks' h1 h2
      cases h
      exact .cons (rp_nkey e a h1) (rpL_nkeys e q h2)
    · cases h
end
end
section
variable {X : Cx} {pins : List (Addr × Obj)} {σ : L2.St} {H : Hp} {s : Shared}
mutual
theorem nkey_is (I : Inv X pins σ H s) : ∀ {v : V} {k : NestedKey} {u : Value}, NKey X.K H v k → RelV v u → NestedIs s.heap k u
  | _, _, u, .non, r => by cases (show u = .none from r); exact .none
  | _, _, u, .bl b, r => by cases (show u = .bool b from r); exact .bool rfl
  | _, _, u, .int i, r => by obtain ⟨t, rfl⟩ := r; exact .int i t
  | _, _, u, .str x, r => by obtain ⟨t, rfl⟩ := r; exact .text x t
  | _, _, u, .tup (a := a) hq hk, r => by
    cases (show u = .ref a from r)
    obtain ⟨its, rv, ht, hz⟩ := I.tuple hq
    obtain ⟨o, h1, h2, n, h3⟩ := ht
    exact .tup h1 h2 h3 (by simpa using nkeys_is I hk rv)
theorem nkeys_is (I : Inv X pins σ H s) : ∀ {vs : List V} {ks : List NestedKey} {us : List Value}, NKeys X.K H vs ks → Vals vs us → NestedAll s.heap ks us
  | _, _, _, .nil, r => by cases r; exact .nil
  | _, _, _, .cons h q, r => by
    cases r with
    | cons r1 r2 => exact .cons (nkey_is I h r1) (nkeys_is I q r2)
end
/-- the keys of such a dict stand in the heap -/
def KeysIn (K : PySem.W.Frag) (H : Hp) (xs : List (NestedKey × Addr × Value)) : Prop := ∀ x ∈ xs, NKey K H (.ref x.2.1) x.1 ∧ x.1.depth ≤ 8
theorem DRel.keys {K : PySem.W.Frag} {F : Hp} (e : Same F H) : ∀ {kvs : List (T × T)} {xs : List (NestedKey × Addr × Value)}, DRel K F kvs xs → KeysIn K H xs
  | _, _, .nil => fun _ h => nomatch h
  | _, _, .cons ⟨h1, h2, h3, _⟩ r => fun x hx => by
    rcases List.mem_cons.mp hx with rfl | hx
    · exact ⟨rp_nkey e h3 h1, h2⟩
    · exact DRel.keys e r x hx
theorem dn_of {a : Addr} {xs : List (NestedKey × Addr × Value)} (I : Inv X pins σ H s) (e : Rd H a (DN X.prog X.w a xs)) (hk : KeysIn X.K H xs) : xs.length ≤ sizeLine ∧ (a == sysModules) = false ∧ s.heap.DictOfH (nestedKind X.prog X.w) a xs := by
  obtain ⟨⟨o, es, ep, h1, h2, h3, h4, h5, h6, h7⟩, _, _⟩ := (show ObjOk X.prog X.w H s.heap a (DN X.prog X.w a xs) from e.ok I.hok)
  exact ⟨h6, h7, o, es, ep, h1, h2, h3, h4, fun x hx => ⟨nkey_is I (hk x hx).1 rfl, (hk x hx).2⟩, h5⟩
end
/-! ### d[y], y in d, d[y] = v -/
def rNGet (P : Program) (w : World) (K : PySem.W.Frag) : R2 := fun x y H Q => ∃ a xs k b p v, x = .ref a ∧ Rd H a (DN P w a xs) ∧ KeysIn K H xs ∧ y = .ref b ∧ NKey K H y k ∧ k.depth ≤ 8 ∧ atKey xs k = some p ∧ RelV v p.2 ∧ Q v H
def rNIn (P : Program) (w : World) (K : PySem.W.Frag) (neg : Bool) : R2 := fun x y H Q => ∃ a xs k b, y = .ref a ∧ Rd H a (DN P w a xs) ∧ KeysIn K H xs ∧ x = .ref b ∧ NKey K H x k ∧ k.depth ≤ 8 ∧ Q (.bl (if neg then !(atKey xs k).isSome else (atKey xs k).isSome)) H
section
variable {X : Cx}
theorem nroom {A : Around} (hu : A.units + 64 < cLine) : (nestedKind X.prog X.w).room A.in1 := by
  show A.units + 1 + 8 < cLine
  omega
theorem ix_nd (hu : X.A.units + 64 < cLine) : IxR X (rNGet X.prog X.w X.K) := by
  intro value slice pins s σ H x y v u Q I rx ry h hs
  obtain ⟨a, xs, k, b, p, z, rfl, e, hk, rfl, ny, hd, hp, rz, q⟩ := h
  obtain rfl : v = Value.ref a := rx
  obtain rfl : u = Value.ref b := ry
  obtain ⟨_, _, dd⟩ := dn_of I e hk
  exact tail_any dd.typeIs slot_dict_getitem.lookup (wpAny_getItem_heap (nroom hu) ⟨nkey_is I ny rfl, hd⟩ dd hp ⟨z, H, I.tok _, rz, q⟩) hs
theorem op_nnotin (hu : X.A.units + 64 < cLine) : OpR X (compareOp .NotIn) (rNIn X.prog X.w X.K true) := by
  intro pins s σ H x y v u Q I rx ry h
  obtain ⟨a, xs, k, b, rfl, e, hk, rfl, ny, hd, q⟩ := h
  obtain rfl : u = Value.ref a := ry
  obtain rfl : v = Value.ref b := rx
  obtain ⟨_, hy, dd⟩ := dn_of I e hk
  exact wpAny_notIn_heap (nroom hu) ⟨nkey_is I ny rfl, hd⟩ hy dd ⟨.bl _, H, I.tok _, rfl, q⟩
def rNSet (P : Program) (w : World) (K : PySem.W.Frag) : TSet := fun x y v H Q => ∃ a xs k b, x = .ref a ∧ H a = some (DN P w a xs) ∧ KeysIn K H xs ∧ y = .ref b ∧ NKey K H y k ∧ k.depth ≤ 8 ∧ xs.length < sizeLine ∧ ∀ r, RelV v r → Q (upd H a (DN P w a (storedH xs k b r)))
theorem set_nd (hu : X.A.units + 64 < cLine) : PSet X (rNSet X.prog X.w X.K) := by
  intro pins s σ H x y v xv yv r Q I rx ry rv h
  obtain ⟨a, xs, k, b, rfl, e, hk, rfl, ny, hd, hl, q⟩ := h
  obtain rfl : xv = Value.ref a := rx
  obtain rfl : yv = Value.ref b := ry
  obtain ⟨hz, hy, dd⟩ := dn_of I (.inl e) hk
  refine wpAny_setItem_heap (hsz := hz) (nroom hu) ⟨nkey_is I ny rfl, hd⟩ dd fun h' dd' hs => ⟨_, ?_, q r rv⟩
  obtain ⟨o, es, ep, h1, h2, h3, h4, _, h5⟩ := dd'
  have lz : (storedH xs k b r).length ≤ sizeLine := by
    unfold storedH
    split
    · rw [List.length_map]; omega
    · rw [List.length_append, List.length_singleton]; omega
  exact d_write I (by rw [e]; exact True.intro) hs ⟨o, h1⟩ ⟨⟨o, es, ep, h1, h2, h3, h4, h5, lz, hy⟩, ⟨o, h1⟩, fun h1' h2' ⟨o', es', ep', k1, k2⟩ st => ⟨o', es', ep', st _ k1, k2⟩⟩
end
end Vs
end
section
/-! Vs33: dicts by tuples of any depth, by values: d[y], y in d, y not in d, d[y] = v. -/
namespace Vs
open PySem PySem.Spec PyProof.Rows L2
def dFindK : List (T × T) → NestedKey → Option T
  | [], _ => none
  | (t, u) :: r, k => match nkOf t with
    | some k' => if NestedKey.beq k' k = true then some u else dFindK r k
    | none => none
def dRepK (k : NestedKey) (v : T) : List (T × T) → List (T × T)
  | [] => []
  | (t, u) :: r => (match nkOf t with
    | some k' => if NestedKey.beq k' k = true then (t, v) else (t, u)
    | none => (t, u)) :: dRepK k v r
def dPutK (kvs : List (T × T)) (t : T) (k : NestedKey) (v : T) : List (T × T) := match dFindK kvs k with
  | some _ => dRepK k v kvs
  | none => kvs ++ [(t, v)]
def nkTup (t : T) : Option NestedKey := match t with
  | .tup ts => match nksOf ts with
    | some ks => if (NestedKey.tup ks).depth ≤ 8 then some (.tup ks) else none
    | none => none
  | _ => none
theorem pair_app {α β : Type} {G : α → β → Prop} : ∀ {l1 : List α} {l2 : List β} {m1 : List α} {m2 : List β}, Paired G l1 l2 → Paired G m1 m2 → Paired G (l1 ++ m1) (l2 ++ m2)
  | _, _, _, _, .nil, h => h
  | _, _, _, _, .cons a r, h => .cons a (pair_app r h)
theorem beq_iff (a b : NestedKey) : NestedKey.beq a b = decide (a = b) := (NestedKey.decide_eq a b).symm
section
variable {K : PySem.W.Frag} {F : Hp}
theorem find_rel {k : NestedKey} : ∀ {kvs : List (T × T)} {xs : List (NestedKey × Addr × Value)}, DRel K F kvs xs → (∀ u, dFindK kvs k = some u → ∃ p v, atKey xs k = some p ∧ RelV v p.2 ∧ Rp K F v u) ∧ (dFindK kvs k = none → atKey xs k = none)
  | [], _, .nil => ⟨fun u e => (nomatch e), fun _ => rfl⟩
  | (t, u) :: r, (k1, a, v) :: xs, .cons ⟨h1, h2, h3, w, h4, h5⟩ q => by
    have h1 : nkOf t = some k1 := h1
    obtain ⟨i1, i2⟩ := find_rel (k := k) q
    unfold dFindK
    rw [h1]
    simp only [beq_iff, decide_eq_true_eq]
    by_cases e : k1 = k
    · rw [if_pos e]
      refine ⟨fun u' e' => ?_, fun z => nomatch z⟩
      cases e'
      exact ⟨(a, v), w, by simp [atKey, List.find?_cons, e], h4, h5⟩
    · rw [if_neg e]
      have ea : atKey ((k1, a, v) :: xs) k = atKey xs k := by simp [atKey, List.find?_cons, e]
      rw [ea]
      exact ⟨i1, i2⟩
theorem rep_rel {k : NestedKey} {v : V} {r : Value} {u : T} (hr : RelV v r) (hv : Rp K F v u) : ∀ {kvs : List (T × T)} {xs : List (NestedKey × Addr × Value)}, DRel K F kvs xs → DRel K F (dRepK k u kvs) (xs.map (putAt k r))
  | [], _, .nil => .nil
  | (t, u0) :: rr, (k1, a, v0) :: xs, .cons ⟨h1, h2, h3, w, h4, h5⟩ q => by
    have h1 : nkOf t = some k1 := h1
    have ih := rep_rel (k := k) hr hv q
    unfold dRepK
    rw [List.map_cons, h1]
    simp only [beq_iff, decide_eq_true_eq]
    by_cases e : k1 = k
    · rw [if_pos e]
      have ea : putAt k r (k1, a, v0) = (k1, a, r) := by unfold putAt; rw [if_pos e]
      rw [ea]
      exact .cons ⟨h1, h2, h3, v, hr, hv⟩ ih
    · rw [if_neg e]
      have ea : putAt k r (k1, a, v0) = (k1, a, v0) := by unfold putAt; rw [if_neg e]
      rw [ea]
      exact .cons ⟨h1, h2, h3, w, h4, h5⟩ ih
theorem put_rel {k : NestedKey} {t u : T} {b : Addr} {v : V} {r : Value} {kvs : List (T × T)} {xs : List (NestedKey × Addr × Value)} (hk : nkOf t = some k) (hd : k.depth ≤ 8) (hb : Rp K F (.ref b) t) (hr : RelV v r) (hv : Rp K F v u) (q : DRel K F kvs xs) : DRel K F (dPutK kvs t k u) (storedH xs k b r) := by
  obtain ⟨i1, i2⟩ := find_rel (k := k) q
  unfold dPutK storedH
  cases e : dFindK kvs k with
  | some u0 =>
    obtain ⟨p, w, h1, _⟩ := i1 u0 e
    rw [h1]
    exact rep_rel hr hv q
  | none =>
    rw [i2 e]
    exact pair_app q (.cons ⟨hk, hd, hb, v, hr, hv⟩ .nil)
theorem nkTup_at {t : T} {k : NestedKey} {y : V} (e : nkTup t = some k) (r : Rp K F y t) : ∃ b, y = .ref b ∧ nkOf t = some k ∧ k.depth ≤ 8 := by
  unfold nkTup at e
  split at e
  · rename_i ts
    split at e
    · rename_i ks ek
      split at e
      · rename_i hd
        cases e
        cases r with
        | tup h q => exact ⟨_, rfl, by unfold nkOf; rw [ek], hd⟩
      · cases e
    · cases e
  · cases e
end
variable [WW]
section
variable {K : PySem.W.Frag} {W : WX} {X : Cx}
/-- a dict that may be read -/
def dctOf : Option MO → Option (List (T × T))
  | some (.dct kvs) => some kvs
  | some (.dctL kvs) => some kvs
  | _ => none
theorem dctOf_at {F : Hp} {A : List Addr} {m : List MO} {H : Hp} {i : Nat} {ad : Addr} {kvs : List (T × T)} (o : Objs K F A m H) (ea : A[i]? = some ad) (e : dctOf m[i]? = some kvs) : ∃ xs, Rd H ad (DN WW.p WW.w ad xs) ∧ DRel K F kvs xs := by
  unfold dctOf at e
  split at e
  · rename_i ks em
    cases e
    obtain ⟨fa, xs, eh, dr⟩ := o.obj i ad _ ea em
    exact ⟨xs, .inl eh, dr⟩
  · rename_i ks em
    cases e
    obtain ⟨od, xs, eh, dr⟩ := o.obj i ad _ ea em
    exact ⟨xs, .inr ⟨od, o.sub _ _ eh⟩, dr⟩
  · cases e
def gNGet (a b : Sl) (m : List MO) : M Sl := match a, b with
  | .own i, .val t => match dctOf m[i]?, nkTup t with
    | some kvs, some k => match dFindK kvs k with
      | some u => rM (.val u) m
      | none => none
    | _, _ => none
  | _, _ => none
theorem ov_nget : OpV K (rNGet WW.p WW.w K) gNGet := by
  intro W F A ρ m σ H x y a b Q w ra rb g
  unfold gNGet at g
  split at g
  · rename_i i t
    split at g
    · rename_i kvs k em ek
      split at g
      · rename_i u eu
        obtain ⟨ad, ea, rfl⟩ := ra
        obtain ⟨xs, eh, dr⟩ := dctOf_at w.os ea em
        obtain ⟨b', rfl, hk, hd⟩ := nkTup_at ek rb
        obtain ⟨p, v, h1, h2, h3⟩ := (find_rel dr).1 u eu
        exact ⟨ad, xs, k, b', p, v, rfl, eh, dr.keys w.os.sub, rfl, rp_nkey w.os.sub rb hk, hd, h1, h2, g.now w (show RpS K F A v (.val u) from h3)⟩
      · exact none_got g
    · exact none_got g
  · exact none_got g
def gNIn (neg : Bool) (a b : Sl) (m : List MO) : M Sl := match b, a with
  | .own i, .val t => match dctOf m[i]?, nkTup t with
    | some kvs, some k => rM (.val (.bl (if neg then !(dFindK kvs k).isSome else (dFindK kvs k).isSome))) m
    | _, _ => none
  | _, _ => none
theorem ov_nin {neg : Bool} : OpV K (rNIn WW.p WW.w K neg) (gNIn neg) := by
  intro W F A ρ m σ H x y a b Q w ra rb g
  unfold gNIn at g
  split at g
  · rename_i i t
    split at g
    · rename_i kvs k em ek
      obtain ⟨ad, ea, rfl⟩ := rb
      obtain ⟨xs, eh, dr⟩ := dctOf_at w.os ea em
      obtain ⟨b', rfl, hk, hd⟩ := nkTup_at ek ra
      have es : (atKey xs k).isSome = (dFindK kvs k).isSome := by
        obtain ⟨i1, i2⟩ := find_rel (k := k) dr
        cases z : dFindK kvs k with
        | some u => obtain ⟨p, v, h1, _⟩ := i1 u z; rw [h1]; rfl
        | none => rw [i2 z]; rfl
      refine ⟨ad, xs, k, b', rfl, eh, dr.keys w.os.sub, rfl, rp_nkey w.os.sub ra hk, hd, ?_⟩
      rw [es]
      exact g.now w (.bl _)
    · exact none_got g
  · exact none_got g
theorem pe_vnget {a b : Expr} {fa fb : VE} {pos : Pos} (hp : X.prog = WW.p) (hw : X.w = WW.w) (hu : X.A.units + 64 < cLine) (hs : PlainIx b) (ha : PE X a (LE X.K W fa)) (hb : PE X b (LE X.K W fb)) : PE X (.Subscript a b pos) (LE X.K W (vBin gNGet fa fb)) := by
  have h := ix_nd (X := X) hu
  rw [hp, hw] at h
  exact PE.imp (pe_ix h ha hb hs) fun _ _ _ => le_bin ov_nget
theorem pt_vnnotin {a b : Expr} {fa fb : VE} {pos : Pos} (hp : X.prog = WW.p) (hw : X.w = WW.w) (hu : X.A.units + 64 < cLine) (hm : behindInMarks .NotIn b = false) (ha : PE X a (LE X.K W fa)) (hb : PE X b (LE X.K W fb)) : PT X (.Compare a [.NotIn] [b] pos) (LT X.K W (vTest (vBin (gNIn true) fa fb))) := by
  have h := op_nnotin (X := X) hu
  rw [hp, hw] at h
  exact pt_vcmp h ov_nin ha hb hm
/-- d[y] = v -/
def gNSet (ρ : List (Option Sl)) (v o k : Sl) (m : List MO) : R := match v, o, k with
  | .val u, .own j, .val t => match m[j]?, nkTup t with
    | some (.dct kvs), some k => if kvs.length < SZ then some (.nx, ⟨ρ, m.set j (.dct (dPutK kvs t k u))⟩) else none
    | _, _ => none
  | _, _, _ => none
theorem nset_go {F : Hp} {A : List Addr} {ρ : List (Option Sl)} {m : List MO} {σ : L2.St} {H : Hp} {D : Ends} {v o k : Sl} {x y z : V} (w : Wd K F A ρ m σ H) (rv : RpS K F A x v) (ro : RpS K F A y o) (rk : RpS K F A z k) (q : Ran K W F A H D (gNSet ρ v o k m)) : rNSet WW.p WW.w K y z x H fun H4 => D.nx σ H4 := by
  unfold gNSet at q
  split at q
  · rename_i u j t
    split at q
    · rename_i kvs k em ek
      split at q
      · rename_i hz
        obtain ⟨ad, ea, rfl⟩ := ro
        obtain ⟨fa, xs, eh, dr⟩ := w.os.obj j ad _ ea em
        obtain ⟨b', rfl, hk, hd⟩ := nkTup_at ek rk
        refine ⟨ad, xs, k, b', rfl, eh, dr.keys w.os.sub, rfl, rp_nkey w.os.sub rk hk, hd, ?_, fun r hr => ?_⟩
        · have := Paired.length dr
          rw [← this]
          exact sz_lt hz
        · have wr := w.os.write ea fa (u := DN WW.p WW.w ad (storedH xs k b' r)) (o := .dct (dPutK kvs t k u)) ⟨fa, _, upd_same, put_rel hk hd rk hr rv dr⟩
          exact (q.later (Nxt.write (List.mem_of_getElem? ea))).nx (w.of (Same.refl _) (List.prefix_refl _) wr)
      · exact none_ran q
    · exact none_ran q
  · exact none_ran q
def vNSet (fo fi fv : VE) : VS := fun s => bS s.ρ (fv s) fun v m1 => bS s.ρ (fo ⟨s.ρ, m1⟩) fun o m2 => bS s.ρ (fi ⟨s.ρ, m2⟩) fun k m3 => gNSet s.ρ v o k m3
theorem ps_vnset {o i value : Expr} {fo fi fv : VE} {pos p2 : Pos} (hp : X.prog = WW.p) (hw : X.w = WW.w) (hu : X.A.units + 64 < cLine) (ho : PE X o (LE X.K W fo)) (hi : PE X i (LE X.K W fi)) (hv : PE X value (LE X.K W fv))
    (ha : ∀ v, assign (.Subscript o i p2) X.env v = (do
      let ov ← holding [v] (eval o X.env)
      let iv ← holding [v, ov] (eval i X.env)
      standAt p2
      holding [v, ov, iv] (setItem ov iv v)
      release [v, ov, iv] []) := by intro _; rfl) (hs : swapsWithSole [.Subscript o i p2] value pos.line X.env = pure false := by rfl) (hww : swappedStores [.Subscript o i p2] value X.env = pure none := by rfl)
    (h1 : (assignEach [.Subscript o i p2] X.env).map (·.2) = [assign (.Subscript o i p2) X.env] := by rfl) : PS X (.Assign [.Subscript o i p2] value pos) (LS X.K W (vNSet fo fi fv)) := by
  have h := set_nd (X := X) hu
  rw [hp, hw] at h
  exact PS.imp (ps_asg hv (pg_sub ho hi h ha) hs hww h1) fun D σ H ⟨F, A, ρ, m, w, r⟩ =>
  ⟨F, A, ρ, m, w, (Ran.bS (rS X.K) r).mono fun x H1 ⟨F1, A1, m1, v, n1, w1, rv, q1⟩ => ⟨F1, A1, ρ, m1, w1, (Ran.bS (rS X.K) q1).mono fun y H2 ⟨F2, A2, m2, d, n2, w2, rd, q2⟩ => ⟨F2, A2, ρ, m2, w2, (Ran.bS (rS X.K) q2).mono fun z H3 ⟨F3, A3, m3, k, n3, w3, rk, q3⟩ =>
    nset_go w3 (rv.next (n2.sub.trans n3.sub) (List.IsPrefix.trans n2.pre n3.pre)) (rd.next n3.sub n3.pre) rk q3⟩⟩⟩
end
end Vs
end
section
/-! Vs34: {k: v} with a tuple as its key. -/
namespace Vs
open PySem PySem.Spec PyProof.Rows L2
def tNDisp (P : Program) (w : World) (K : PySem.W.Frag) (tk tv : TE) : TE := fun σ H Q => ∀ p, H p = none → tk σ (upd H p (DN P w p [])) fun y H1 => tv σ H1 fun v H2 => H2 p = some (DN P w p []) ∧ ∃ b k, y = .ref b ∧ NKey K H2 y k ∧ k.depth ≤ 8 ∧ ∀ r, RelV v r → Q (.ref p) (upd H2 p (DN P w p [(k, b, r)]))
theorem dn_ok {P : Program} {w : World} {H : Hp} {h : Heap} {a : Addr} {xs : List (NestedKey × Addr × Value)} (d : h.DictOfH (nestedKind P w) a xs) (z : xs.length ≤ sizeLine) (y : (a == sysModules) = false) : ObjOk P w H h a (DN P w a xs) := by
  obtain ⟨o, es, ep, h1, h2, h3, h4, _, h5⟩ := d
  exact ⟨⟨o, es, ep, h1, h2, h3, h4, h5, z, y⟩, ⟨o, h1⟩, fun h1' h2' ⟨o', es', ep', k1, k2⟩ st => ⟨o', es', ep', st _ k1, k2⟩⟩
section
variable {X : Cx}
theorem pe_ndisp {ke ve : Expr} {tk tv : TE} {pos : Pos} (hu : X.A.units + 64 < cLine) (hk : PE X ke tk) (hv : PE X ve tv) : PE X (.Dict [some ke] [ve] pos) (tNDisp X.prog X.w X.K tk tv) := by
  refine ⟨fun pins s σ H Q I h => ?_⟩
  have hn := I.hok.fresh (Nat.le_refl s.heap.objs.size)
  have big := I.big
  have hy : (s.heap.objs.size == sysModules) = false := beq_eq_false_iff_ne.mpr (Nat.ne_of_gt big)
  have I1 := I.laid (a := s.heap.objs.size) (o := DN X.prog X.w s.heap.objs.size []) (h' := s.heap.push { cls := .type "dict", data := .dict #[] }) (t' := s.toks) (fun _ _ q => Heap.get?_push_of_some _ q) (Nat.le_refl _) (dn_ok (Heap.DictOfH.new s.heap) (Nat.zero_le _) hy)
  have hrm : (nestedKind X.prog X.w).room X.A := by show X.A.units + 8 < cLine; omega
  have q := h _ hn
  have hsh : (evalEachOpt [some ke] X.env).zip ((evalEach [ve] X.env).map fun v => do let x ← v; standAt pos; pure x) = [(eval ke X.env, (do let x ← eval ve X.env; standAt pos; pure x))].map fun p => (some p.1, p.2) := rfl
  rw [arm_eval_Dict, hsh, dictDisplay_pairs _ (by simp) (by show 1 < 17; decide)]
  refine wpAny_bind (wpAny_standAt (wpAny_bind (wpAny_subDictH (knd := nestedKind X.prog X.w) hrm (by show 1 ≤ 15; decide) ?_)))
  refine evalPairs_cons (thn (hk.run pins _ σ _ _ I1 q) fun kv s1 ⟨y, H1, I2, ry, q1⟩ => ?_)
  refine wpAny_bind (thn (hv.run pins s1 σ H1 _ I2 q1) fun vv s2 ⟨v, H2, I3, rv, e2, b, k, ey, nk, hd, q2⟩ => wpAny_bind (wpAny_standAt (wpAny_pure ?_)))
  refine evalPairs_nil ?_
  subst ey
  obtain rfl : kv = Value.ref b := ry
  obtain ⟨_, _, dd⟩ := dn_of I3 (.inl e2) (fun _ h => nomatch h)
  refine ⟨[(k, b, vv)], ⟨rfl, rfl, ⟨nkey_is I3 nk rfl, hd⟩, trivial⟩, dd, fun h' tk2 dd' hs => wpAny_pure ?_⟩
  have ez : (storedAllH [] [(k, b, vv)] : List (NestedKey × Addr × Value)) = [(k, b, vv)] := by simp [storedAllH, storedH, atKey]
  rw [ez] at dd'
  obtain ⟨o, es, ep, h1, _⟩ := id dd'
  exact ⟨.ref s.heap.objs.size, _, d_write I3 (by rw [e2]; exact True.intro) hs ⟨o, h1⟩ (dn_ok dd' (by show 1 ≤ sizeLine; decide) hy), rfl, q2 vv rv⟩
end
variable [WW]
section
variable {K : PySem.W.Frag} {W : WX} {X : Cx}
def gNDisp (a b : Sl) (m : List MO) : M Sl := match a, b with
  | .val t, .val u => match nkTup t with
    | some _ => rM (.own m.length) (m ++ [.dct [(t, u)]])
    | none => none
  | _, _ => none
theorem pe_vndisp {ke ve : Expr} {fk fv : VE} {pos : Pos} (hp : X.prog = WW.p) (hw : X.w = WW.w) (hu : X.A.units + 64 < cLine) (hk : PE X ke (LE X.K W fk)) (hv : PE X ve (LE X.K W fv)) : PE X (.Dict [some ke] [ve] pos) (LE X.K W (vBin gNDisp fk fv)) := by
  have h := pe_ndisp (X := X) (pos := pos) hu hk hv
  rw [hp, hw] at h
  refine PE.imp h fun σ H Q ⟨F, A, ρ, m, w, g⟩ => fun p np => ?_
  have n0 : Nxt F A H F A (upd H p (DN WW.p WW.w p [])) := ⟨Same.refl _, List.prefix_refl _, fun _ _ e => .inl e, fun _ h => .inl h, fun a o e _ => .inr (by rw [upd_ne (ne_of_none e np)]; exact e)⟩
  have w0 := w.of (Same.refl _) (List.prefix_refl _) (w.os.keep (o := DN WW.p WW.w p []) np)
  have pA : p ∉ A := w.os.notin np
  have pF : F p = none := w.os.fnone np
  refine ⟨F, A, ρ, m, w0, ?_⟩
  unfold vBin at g
  match fk ⟨ρ, m⟩, g with
  | none, g => exact none_got (show Got X.K W σ ρ F A H (rS X.K) none Q from g)
  | some (.ex C fs, m1), g =>
    have g : Got X.K W σ ρ F A H (rS X.K) (some (.ex C fs, m1)) Q := g
    obtain ⟨_, _, z, g⟩ := g
    cases z
    exact ⟨_, _, rfl, fun F' A' d vs H' n w' => g F' A' d vs H' (n0.trans n) w'⟩
  | some (.ok a, m1), g =>
    refine ⟨_, _, rfl, fun F1 A1 y H1 n1 w1 ra => ⟨F1, A1, ρ, m1, w1, ?_⟩⟩
    replace g : Got X.K W σ ρ F A H (rS X.K) (bM (fv ⟨ρ, m1⟩) fun b m2 => gNDisp a b m2) Q := g
    match fv ⟨ρ, m1⟩, g with
    | none, g => exact none_got (show Got X.K W σ ρ F A H (rS X.K) none Q from g)
    | some (.ex C fs, m2), g =>
      have g : Got X.K W σ ρ F A H (rS X.K) (some (.ex C fs, m2)) Q := g
      obtain ⟨_, _, z, g⟩ := g
      cases z
      exact ⟨_, _, rfl, fun F' A' d vs H' n w' => g F' A' d vs H' (n0.trans (n1.trans n)) w'⟩
    | some (.ok b, m2), g =>
      refine ⟨_, _, rfl, fun F2 A2 v H2 n2 w2 rb => ?_⟩
      have g3 : Got X.K W σ ρ F A H (rS X.K) (gNDisp a b m2) Q := g
      clear g
      have n12 := n1.trans n2
      have e2 : H2 p = some (DN WW.p WW.w p []) := n12.keep p _ upd_same pA
      unfold gNDisp at g3
      split at g3
      · rename_i t u
        split at g3
        · rename_i k ek
          have ra2 := ra.next n2.sub n2.pre
          obtain ⟨b', rfl, hk, hd⟩ := nkTup_at ek ra2
          refine ⟨e2, b', k, rfl, rp_nkey w2.os.sub ra2 hk, hd, fun r hr => ?_⟩
          have pF2 : F2 p = none := by
            cases z : F2 p with
            | none => rfl
            | some o =>
              rcases n12.fresh p o z with h | h | h
              · rw [pF] at h; cases h
              · rw [upd_same] at h; cases h
              · exact absurd h pA
          have pA2 : p ∉ A2 := fun h => by
            rcases n12.news p h with h | h
            · exact pA h
            · rw [upd_same] at h; cases h
          have o2 : Objs X.K F2 (A2 ++ [p]) (m2 ++ [.dct [(t, u)]]) (upd H2 p (DN WW.p WW.w p [(k, b', r)])) := (w2.os.over pF2 pA2 (notbl e2 (by intro _ z; unfold DN at z; cases z))).addO pA2 ⟨_, upd_same⟩ ⟨pF2, _, upd_same, .cons ⟨hk, hd, ra2, v, hr, rb⟩ .nil⟩
          exact g3.fin ((n0.trans n12).addp np) (w2.of (Same.refl _) (List.prefix_append A2 [p]) o2) ⟨p, by rw [← w2.os.len, List.getElem?_append_right (Nat.le_refl _), Nat.sub_self]; rfl, rfl⟩
        · exact none_got g3
      · exact none_got g3
end
end Vs
end
section
/-! tuple * int, with k at most 1 -/
namespace L2
open PySem PySem.Spec PyProof.Rows
theorem tuple_mul1W (l : Addr) (items : Array Value) (n : Nat) (dd : Option Addr) (sl : Array (Option Value)) (u : Tok) :
    Meets (Builtin.«tuple.__mul__» ⟨[.ref l, .int 1 u], []⟩) (fun _ R s => s.heap.get? l = some { cls := .type "tuple", dict := dd, data := .seq items n, slots := sl } ∧
      R (.ok (.ret (Value.ref l))) s) :=
  .of_wp fun prog w A R s h => by
    obtain ⟨hp, g, d, tk, os⟩ := s
    obtain ⟨hl, h⟩ := h
    have f1 := AutoSeq1.idx_int
    wp_walk using wpAny_loadPart' hl
    repeat (first
      | (refine wpAny_ite_false (by decide) ?_; wp_walk using wpAny_loadPart' hl)
      | (refine wpAny_ite_true (by simp) ?_; wp_walk using wpAny_loadPart' hl))
    exact ⟨_, rfl, h⟩
theorem tuple_mul0W (l : Addr) (items : Array Value) (n : Nat) (dd : Option Addr) (sl : Array (Option Value)) (x : Int) (u : Tok) (c0 : (decide (x < -(2 ^ 63)) || decide (x ≥ 2 ^ 63)) = false) (c1 : (items.isEmpty || x == 1) = false) (c2 : (decide (x ≤ 0) || items.isEmpty) = true) :
    Meets (Builtin.«tuple.__mul__» ⟨[.ref l, .int x u], []⟩) (fun _ R s => s.heap.get? l = some { cls := .type "tuple", dict := dd, data := .seq items n, slots := sl } ∧
      R (.ok (.ret (Value.ref s.heap.objs.size))) { s with heap := s.heap.push { cls := Value.type "tuple", data := Data.seq #[] }, toks := s.toks }) :=
  .of_wp fun prog w A R s h => by
    obtain ⟨hp, g, d, tk, os⟩ := s
    obtain ⟨hl, h⟩ := h
    have f1 := AutoSeq1.idx_int
    wp_walk using wpAny_loadPart' hl
    repeat (first
      | (refine wpAny_ite_false (decide_eq_false (by rw [c0]; exact Bool.false_ne_true)) ?_; wp_walk using wpAny_loadPart' hl)
      | (refine wpAny_ite_false (decide_eq_false (by rw [c1]; exact Bool.false_ne_true)) ?_; wp_walk using wpAny_loadPart' hl)
      | (refine wpAny_ite_true (decide_eq_true (by rw [c2])) ?_; wp_walk using wpAny_loadPart' hl))
    exact ⟨_, rfl, h⟩
/-- tuple * k, k ≤ 1 -/
def rRepT1 (K : PySem.W.Frag) : R2 := fun x y H Q => ∃ l k xs, x = .ref l ∧ y = .int k ∧ SqT K H l xs ∧ xs ≠ [] ∧ k ≤ 1 ∧ -1000 ≤ k ∧ (k = 1 → Q (.ref l) H) ∧ (k ≤ 0 → ∀ p, H p = none → Q (.ref p) (upd H p (.tup [])))
section
variable {X : Cx}
theorem op_repT1 : OpR X (binaryOp .Mult) (rRepT1 X.K) := by
  intro pins s σ H x y v u Q I rx ry h
  obtain ⟨l, k, xs, rfl, rfl, hT, hne, h1, h2, q1, q0⟩ := h
  cases rx
  obtain ⟨t, rfl⟩ := ry
  obtain ⟨its, r, ⟨⟨cls, dd, data, sl⟩, ho, hc, n, hd⟩, hs⟩ := I.tuple hT
  simp only at hc hd
  subst hc hd
  have hle : its.length = xs.length := r.length.symm
  have hn : its ≠ [] := fun e => hne (by
    rw [e] at hle
    exact List.eq_nil_of_length_eq_zero hle.symm)
  have hi : its.toArray.isEmpty = false := by
    cases its with
    | nil => exact absurd rfl hn
    | cons a b => rfl
  have c0 : (decide (k < -(2 ^ 63)) || decide (k ≥ 2 ^ 63)) = false := by
    rw [decide_eq_false (by omega), decide_eq_false (by omega)] <;> rfl
  by_cases e1 : k = 1
  · subst e1
    refine wpAny_binaryOp_repeat_ref (T := "tuple") (U := "int") (by decide) ⟨_, ho, rfl⟩ (fun s' => typeIs_int s' 1 t) noFill_tuple_mul F.fills_int_mul F.slot_int_rmul repeat_tuple F.slot_int_index.lookup
      (call_meets F.slot_int_rmul (typeIs_int s 1 t) F.entry_int_rmul (F.args_int_rmul_2 _ _) (int_rmul_tuple 1 t l its.toArray n dd sl)
        ⟨ho, rfl, ⟨_, ho, rfl⟩, call_meets F.slot_tuple_mul ⟨_, ho, rfl⟩ F.entry_tuple_mul (F.args_tuple_mul_2 _ _) (tuple_mul1W l its.toArray n dd sl t) ⟨ho, ?_⟩⟩)
    exact ⟨.ref l, H, I, rfl, q1 rfl⟩
  · have c1 : (its.toArray.isEmpty || k == 1) = false := by
      rw [hi, Bool.false_or]
      exact beq_eq_false_iff_ne.mpr e1
    have c2 : (decide (k ≤ 0) || its.toArray.isEmpty) = true := by
      rw [decide_eq_true (by omega), Bool.true_or]
    refine wpAny_binaryOp_repeat_ref (T := "tuple") (U := "int") (by decide) ⟨_, ho, rfl⟩ (fun s' => typeIs_int s' k t) noFill_tuple_mul F.fills_int_mul F.slot_int_rmul repeat_tuple F.slot_int_index.lookup
      (call_meets F.slot_int_rmul (typeIs_int s k t) F.entry_int_rmul (F.args_int_rmul_2 _ _) (int_rmul_tuple k t l its.toArray n dd sl)
        ⟨ho, rfl, ⟨_, ho, rfl⟩, call_meets F.slot_tuple_mul ⟨_, ho, rfl⟩ F.entry_tuple_mul (F.args_tuple_mul_2 _ _) (tuple_mul0W l its.toArray n dd sl k t c0 c1 c2) ⟨ho, ?_⟩⟩)
    refine ⟨.ref s.heap.objs.size, _, I.laid (t' := s.toks) (o := .tup []) (fun b ob q => Heap.get?_push_of_some _ q) (Nat.le_refl _) ?_, rfl, q0 (by omega) _ (I.hok.fresh (Nat.le_refl _))⟩
    exact ⟨Nat.zero_le _, _, .nil, IsTup.new _ _⟩
theorem op_repTA : OpR X (binaryOp .Mult) (fun x y H Q => rRepT X.K x y H Q ∨ rRepT1 X.K x y H Q) := by
  intro pins s σ H x y v u Q I rx ry h
  rcases h with h | h
  · exact op_repT pins s σ H x y v u Q I rx ry h
  · exact op_repT1 pins s σ H x y v u Q I rx ry h
end
end L2
end
section
/-! Vs35: insert, truth of data, properties, len of own instances, tuple * int, is True. -/
namespace Vs
open PySem PySem.Spec PyProof.Rows L2
variable [WW]
section
variable {K : PySem.W.Frag} {W : WX} {X : Cx}
/-! ### xs.insert(i, y) -/
def gInsert (o : Sl) (ss : List Sl) (m : List MO) : M Sl := match o, ss with
  | .own i, [.val (.int k), .val t] => match m[i]? with
    | some (.lst ts) => if ts.length < SZ ∧ 0 ≤ k ∧ k ≤ 1000000 then rM (.val .non) (m.set i (.lst (ts.take k.toNat ++ [t] ++ ts.drop k.toNat))) else none
    | _ => none
  | _, _ => none
/-! ### truth -/
def gTru (s : Sl) (m : List MO) : Option Bool := match seqOf s m with
  | some ts => some (!ts.isEmpty)
  | none => match s with
    | .val .non => some false
    | .val (.bl b) => some b
    | .val (.int i) => some (i != 0)
    | .val (.str y) => if y.length ≤ SZ then some ((y.length : Int) != 0) else none
    | _ => none
theorem isEmpty_rp {F : Hp} {xs : List V} {ts : List T} (r : RpL K F xs ts) : ts.isEmpty = xs.isEmpty := by cases r <;> rfl
theorem gTru_at {F : Hp} {A : List Addr} {m : List MO} {H : Hp} {s : Sl} {x : V} {k : Bool} (o : Objs K F A m H) (r : RpS K F A x s) (e : gTru s m = some k) : TruV K x H k := by
  unfold gTru at e
  split at e
  · rename_i ts es
    cases e
    obtain ⟨a, xs, rfl, h1, h2⟩ := seqOf_at o r es
    rw [isEmpty_rp h2]
    exact h1.elim (fun h => .inl ⟨xs, h, rfl⟩) fun h => .inr (.inl ⟨xs, h, rfl⟩)
  · split at e
    · cases r; cases e; exact rfl
    · cases r; cases e; exact rfl
    · cases r; cases e; exact rfl
    · split at e
      · rename_i hz
        cases r; cases e; exact ⟨sz_le hz, rfl⟩
      · cases e
    · cases e
def vTruth (f : VE) : VT := fun s => bM (f s) fun r m => match gTru r m with
  | some b => rM b m
  | none => none
theorem lt_truth {f : VE} {σ : L2.St} {H : Hp} {Q : Bool → Hp → Prop} (h : LT K W (vTruth f) σ H Q) : LE K W f σ H fun x H' => ∃ k, TruV K x H' k ∧ Q k H' := by
  obtain ⟨F, A, ρ, m, w, g⟩ := h
  refine ⟨F, A, ρ, m, w, (Got.bind (R1 := rS K) g).mono fun x H1 ⟨F1, A1, m1, a, n, w1, ra, q⟩ => ?_⟩
  split at q
  · rename_i b e
    exact ⟨b, gTru_at w1.os ra e, q.now w1 rfl⟩
  · exact none_got q
theorem pt_vtruth {e : Expr} {f : VE} (h : PE X e (LE X.K W f)) (he : ∀ whole, isTrue e X.env whole = (do let v ← whole; standAt e.pos; holding [v] (truthy v)) := by intro _; rfl) : PT X e (LT X.K W (vTruth f)) := PT.imp (pt_truth h he) fun _ _ _ => lt_truth
/-! ### e.f, a property -/
structure PR (P : Program) (w : World) (K : PySem.W.Frag) (mg : Str → Option Value) (base : Heap) (k : Nat) (C : Addr) (f : Str) (vf : VF) where
  p : Addr
  g : Addr
  fd : FuncData
  ps : List Str
  cl : Cls K C
  po : PropOf K C f p g
  fn : FnOk P w K mg base (L2.CX P w) k g fd ps (SpV K 1 vf)
  b : Binds K fd ps []
/-! ### len(own) -/
/-! ### x is True, x is not True -/
section
variable {a b : Expr} {fa fb : VE} {pos : Pos}
end
/-! ### tuple * int -/
def gRepT (a b : Sl) (m : List MO) : M Sl := match a, b with
  | .val (.tup ts), .val (.int k) => if ts ≠ [] ∧ -1000 ≤ k ∧ k ≤ 1000 ∧ ts.length ≤ 1000 then rM (.val (.tup (List.replicate k.toNat ts).flatten)) m else none
  | _, _ => none
theorem ov_repT : OpV K (fun x y H Q => rRepT K x y H Q ∨ rRepT1 K x y H Q) gRepT := by
  intro W F A ρ m σ H x y a b Q w ra rb g
  unfold gRepT at g
  split at g
  · rename_i ts k
    split at g
    · rename_i h
      have ra : Rp K F _ (.tup ts) := ra
      have rb : Rp K F _ (.int k) := rb
      cases rb
      cases ra with
      | tup h1 h2 =>
        have hk0 : ∀ p, H p = none → Q (.ref p) (upd H p (.tup (List.replicate k.toNat _).flatten)) := fun p np => by
          have sN : ∀ o : HO, Same F (upd F p o) := fun o => same_new (w.os.fnone np)
          exact g.fin (Nxt.new w.os np) (w.of (sN _) (List.prefix_refl _) (w.os.new np)) (show Rp K _ _ _ from .tup (SqT.of upd_same) ((h2.repl _).same (sN _)))
        by_cases h12 : 2 ≤ k
        · refine .inl ⟨_, k, _, rfl, rfl, sqT_same w.os.sub h1, fun e => ?_, h12, h.2.2.1, by rw [h2.length]; exact h.2.2.2, hk0⟩
          subst e; cases h2; exact h.1 rfl
        · refine .inr ⟨_, k, _, rfl, rfl, sqT_same w.os.sub h1, fun e => ?_, by omega, h.2.1, fun e1 => ?_, fun e0 p np => ?_⟩
          · subst e; cases h2; exact h.1 rfl
          · subst e1
            refine g.now w ?_
            rw [show (List.replicate (1 : Int).toNat ts).flatten = ts from by simp]
            exact (show Rp K _ _ _ from .tup h1 h2)
          · have := hk0 p np
            rw [show k.toNat = 0 from by omega] at this
            exact this
    · exact none_got g
  · exact none_got g
theorem pe_vrepT {a b : Expr} {fa fb : VE} {pos : Pos} (ha : PE X a (LE X.K W fa)) (hb : PE X b (LE X.K W fb)) : PE X (.BinOp a .Mult b pos) (LE X.K W (vBin gRepT fa fb)) := pe_vop op_repTA ov_repT ha hb
end
end Vs
end
section
/-! Vs36: lists that hold what may change: displayed, read, written. -/
namespace Vs
open PySem PySem.Spec PyProof.Rows L2
variable [WW]
section
variable {K : PySem.W.Frag} {W : WX} {X : Cx}
end
end Vs
end
section
/-! VsG: defs that are run where no repr runs (guards are empty): repr of nested data. -/
namespace Vs
open PySem PySem.Spec PyProof.Rows L2
variable [WW]
/-- what repr serves -/
def reprOk (d : PyData) : Bool := match d with
  | .list _ => PyData.showable d && !PyData.hasDict d && decide (d.depth ≤ 64) && decide ((PyData.shown d).length ≤ SZ)
  | .tuple _ => PyData.showable d && !PyData.hasDict d && decide (d.depth ≤ 64) && decide ((PyData.shown d).length ≤ SZ)
  | .str y => decide ((reprText y).length ≤ SZ)
  | .none => true
  | .int i => decide (i.natAbs.log2 < 1920)
  | .bool _ => true
  | _ => false
def gRepr : List Sl → List MO → M Sl
  | [s], m => match datOf s m with
    | some d => if reprOk d = true then rM (.val (.str (PyData.shown d))) m else none
    | none => none
  | _, _ => none
section
variable {K : PySem.W.Frag} {W : WX} {X : Cx}
end
/-! ### str of a text, a number, None, a bool -/
abbrev rStrF : List V → Hp → VK → Prop := fun xs H Q => (rStrI xs H Q ∨ ∃ a, xs = [.str a] ∧ Q (.str a) H) ∨ (xs = [.non] ∧ Q (.str "None") H) ∨ ∃ b, xs = [.bl b] ∧ Q (.str (if b then "True" else "False")) H
def gStrF : List Sl → List MO → M Sl
  | [.val (.int i)], m => if i.natAbs.log2 < 1920 then rM (.val (.str (toString i))) m else none
  | [.val (.str x)], m => rM (.val (.str x)) m
  | [.val .non], m => rM (.val (.str "None")) m
  | [.val (.bl b)], m => rM (.val (.str (if b then "True" else "False"))) m
  | _, _ => none
section
variable {K : PySem.W.Frag} {X : Cx}
theorem call_str_non : CallR X (.type "str") (fun xs H Q => xs = [.non] ∧ Q (.str "None") H) := by
  intro pins s σ H xs us Q I r h
  obtain ⟨rfl, q⟩ := h
  obtain ⟨u, rfl, ru⟩ := r.one
  cases (show u = Value.none from ru)
  exact PySem.P.str_of_none ⟨.str _, H, I.tok _, ⟨_, rfl⟩, q⟩
theorem call_str_bl : CallR X (.type "str") (fun xs H Q => ∃ b, xs = [.bl b] ∧ Q (.str (if b then "True" else "False")) H) := by
  intro pins s σ H xs us Q I r h
  obtain ⟨b, rfl, q⟩ := h
  obtain ⟨u, rfl, ru⟩ := r.one
  cases (show u = Value.bool b from ru)
  exact PySem.P.str_of_bool ⟨.str _, H, I.tok _, ⟨_, rfl⟩, q⟩
theorem call_strF : CallR X (.type "str") rStrF := CallR.or' (CallR.or' call_str_int SkE.call_str_str) (CallR.or' call_str_non call_str_bl)
theorem cv_strF : CallV K rStrF gStrF := by
  intro W F A ρ m σ H xs ss Q w rs g
  unfold gStrF at g
  split at g
  · split at g
    · rename_i h
      obtain ⟨x, rfl, rx⟩ := rpSs1 rs
      cases rx
      exact .inl (.inl ⟨_, rfl, h, g.now w (.str _)⟩)
    · exact none_got g
  · obtain ⟨x, rfl, rx⟩ := rpSs1 rs
    cases rx
    exact .inl (.inr ⟨_, rfl, g.now w (.str _)⟩)
  · obtain ⟨x, rfl, rx⟩ := rpSs1 rs
    cases rx
    exact .inr (.inl ⟨rfl, g.now w (.str _)⟩)
  · obtain ⟨x, rfl, rx⟩ := rpSs1 rs
    cases rx
    exact .inr (.inr ⟨_, rfl, g.now w (.str _)⟩)
  · exact none_got g
end
/-! ### range(a, b) -/
section
variable {W : WX} {X : Cx}
end
/-! ### defs that are run where no repr runs -/
structure FnG (P : Program) (w : World) (K : PySem.W.Frag) (mg : Str → Option Value) (base : Heap) (k : Nat) (f : Addr) (fd : FuncData) (ps : List Str) (sp : Sp) : Prop where
  arity : ∀ ws G R Ex, sp ws G R Ex → ws.length = ps.length
  go : ∀ (B : Around) (up : List Env) (t : Shared) (G : Hp) (ar : Args) (xs : List Value) (ws : List V) (R : VK) (Ex : XK), Room k B → B.guards = some [] → Env0 P w K mg base B up t G → BindsTo t fd ar (ps.zip xs) → Vals ws xs → sp ws G R Ex → codeAny (model P w) B (.call (.ref f) ar) (CR (L2.CX P w) up P w G t R Ex) t
section
variable {P : Program} {w : World} {K : PySem.W.Frag} {mg : Str → Option Value} {base : Heap}
end
section
variable {X : Cx} {W : WX} {k : Nat} {f : Addr} {fd : FuncData} {ps : List Str} {sp : Sp} {E : L2.St → XK} {x : Str} {p pos : Pos} {e : Expr} {es : List Expr} {t : TA}
/-- as DV, where no repr runs -/
structure DG (P : Program) (w : World) (K : PySem.W.Frag) (mg : Str → Option Value) (base : Heap) (x : Str) (k np : Nat) (vf : VF) where
  a : Addr
  fd : FuncData
  ps : List Str
  m : mg x = some (.ref a)
  kp : PySem.W.keepIn K (.ref a) = true
  g : FnG P w K mg base k a fd ps (SpV K np vf)
  b : Binds K fd ps []
end
end Vs
end
section
/-! VsM: max of a list of whole numbers. -/
namespace Vs
open PySem PySem.Spec PyProof.Rows L2
variable [WW]
def maxZ : Int → List Int → Int
  | n, [] => n
  | n, a :: r => maxZ (if n < a then a else n) r
theorem maxZ_ge : ∀ (n : Int) (r : List Int), n ≤ maxZ n r ∧ ∀ a ∈ r, a ≤ maxZ n r
  | n, [] => ⟨Int.le_refl _, fun _ h => nomatch h⟩
  | n, a :: r => by
    obtain ⟨h1, h2⟩ := maxZ_ge (if n < a then a else n) r
    have h3 : n ≤ (if n < a then a else n) ∧ a ≤ (if n < a then a else n) := by split <;> omega
    refine ⟨Int.le_trans h3.1 h1, fun b hb => ?_⟩
    rcases List.mem_cons.mp hb with rfl | hb
    · exact Int.le_trans h3.2 h1
    · exact h2 b hb
theorem maxZ_mem : ∀ (n : Int) (r : List Int), maxZ n r = n ∨ maxZ n r ∈ r
  | n, [] => .inl rfl
  | n, a :: r => by
    show maxZ (if n < a then a else n) r = n ∨ _
    rcases maxZ_mem (if n < a then a else n) r with h | h
    · by_cases z : n < a
      · rw [if_pos z] at h
        right
        show maxZ (if n < a then a else n) r ∈ _
        rw [if_pos z, h]
        exact List.mem_cons_self ..
      · rw [if_neg z] at h
        rw [if_neg z]
        exact .inl h
    · exact .inr (List.mem_cons_of_mem _ h)
def gMaxL : List Sl → List MO → M Sl
  | [s], m => match (lsqOf s m).bind intsOf with
    | some (n :: r) => rM (.val (.int (maxZ n r))) m
    | _ => none
  | _, _ => none
section
variable {K : PySem.W.Frag}
theorem cv_maxL : CallV K (rMax K) gMaxL := by
  intro W F A ρ m σ H xs ss Q w rs g
  unfold gMaxL at g
  split at g
  · split at g
    · rename_i n r e
      obtain ⟨ts, e1, e2⟩ := bind_some e
      obtain ⟨x, rfl, rx⟩ := rpSs1 rs
      obtain ⟨a, ys, rfl, h1, h2⟩ := lsqOf_at w.os rx e1
      obtain rfl := intsOf_rp h2 e2
      refine ⟨a, n :: r, rfl, h1, Nat.succ_pos _, fun k hk hy => ?_⟩
      have e3 : k = maxZ n r := by
        obtain ⟨g1, g2⟩ := maxZ_ge n r
        have u1 : k ≤ maxZ n r := by
          rcases List.mem_cons.mp hk with rfl | z
          · exact g1
          · exact g2 k z
        have u2 : maxZ n r ≤ k := by
          rcases maxZ_mem n r with z | z
          · rw [z]; exact hy n (List.mem_cons_self ..)
          · exact hy _ (List.mem_cons_of_mem _ z)
        omega
      rw [e3]
      exact g.now w (.int _)
    · exact none_got g
  · exact none_got g
end
end Vs
end
section
/-! VsD: dicts by tuples of any depth: tuple(d), for k in d. -/
namespace Vs
open PySem PySem.Spec PyProof.Rows L2
section
variable {prog : Program} {w : World} {A : Around} {E : Value → Shared → Prop} {s : Shared} {d : Addr} {es : Array DictEntry} {ep : Nat}
theorem collect_dict {Q : List Value → Shared → Prop} (hh : A.handled = none) (lo : (d == sysModules) = false) (hd : s.heap.DictRaw d es ep) (hn : es.size ≤ sizeLine)
    (hQ : ∀ (h' : Heap) (tk : Nat) (acc : Array Value), (∀ b o, s.heap.get? b = some o → h'.get? b = some o) → ItemsOf (fun i v => ∃ hi : i < es.size, v = es[i].key) acc es.size → Q acc.toList { s with heap := h', toks := tk }) :
    wpAny (model prog w) A (collect (.ref d)) Q E s := by
  unfold collect
  refine wpAny_bind (wpAny_runValue (codeAny_builtin F.entry_proto_collect ?_))
  rw [Around.under_plainId F.plain_proto_collect _]
  show wpAny _ A.in1 (newList [] >>= fun l => again (.builtin "list.__iadd__" ⟨[l, .ref d], []⟩)) _ _ s
  refine wpAny_bind (wpAny_newObj_type ?_)
  refine wpAny_pure ⟨plainId_quiet F.plain_list_iadd _, codeAny_builtin F.entry_list_iadd ?_⟩
  rw [Around.under_plainId F.plain_list_iadd _]
  show wpAny _ A.in1 (Builtin.List.listExtendWith (.ref s.heap.objs.size) (.ref d) (.ref s.heap.objs.size)) _ _ _
  have hS : (s.heap.push { cls := .type "list", data := .seq ([] : List Value).toArray }).get? s.heap.objs.size = some { cls := .type "list", data := .seq #[] 0 } := Heap.get?_push_size _ rfl
  obtain ⟨od, hod, _, _⟩ := id hd
  have hlt : d < s.heap.objs.size := Heap.lt_size hod
  refine wpAny_mono (PySem.W.kdl_extend (A := A) (R := fun rr s' => rr = .ok (.ret (.ref s.heap.objs.size)) ∧ ∃ (h' : Heap) (tk : Nat) (acc : Array Value) (c' : Nat), s' = { s with heap := h', toks := tk } ∧
      (∀ b o, s.heap.get? b = some o → h'.get? b = some o) ∧ h'.get? s.heap.objs.size = some { cls := .type "list", dict := none, data := .seq acc c', slots := #[] } ∧ ItemsOf (fun i v => ∃ hi : i < es.size, v = es[i].key) acc es.size)
    (s := { s with heap := s.heap.push { cls := .type "list", data := .seq ([] : List Value).toArray } }) (KdlSrc.rawDict (ep := ep) lo) hh (hd.at fun o e => Heap.get?_push_of_some _ e) s.heap.objs.size (Nat.ne_of_gt hlt) (Nat.ne_of_gt hlt) (.ref s.heap.objs.size) 0 hS
    (fun h' tk acc c' hk e hi => ⟨rfl, h', tk, acc, c', rfl, fun b o q => hk b o (Nat.ne_of_lt (Heap.lt_size q)) (Heap.get?_push_of_some _ q), e, hi⟩) hn) (fun fin s' h => ?_) (fun e s' h => ?_)
  · cases fin with
    | done f =>
      obtain ⟨e, h', tk, acc, c', rfl, hk, hS', hi⟩ := h
      cases e
      show wpAny _ A (load s.heap.objs.size >>= _) _ _ _
      exact wpAny_bind (wpAny_load hS' (wpAny_pure (hQ h' tk acc hk hi)))
    | again c' =>
      refine ⟨h.1, codeAny_mono h.2 fun rr s'' hr' => ?_⟩
      obtain ⟨rfl, h', tk, acc, c', rfl, hk, hS', hi⟩ := hr'
      show wpAny _ A (load s.heap.objs.size >>= _) _ _ _
      exact wpAny_bind (wpAny_load hS' (wpAny_pure (hQ h' tk acc hk hi)))
  · exact absurd h.1 (by simp)
theorem code_tuple_new_dict {Q₁ : Value → Shared → Prop} (hh : A.handled = none) (lo : (d == sysModules) = false) (hd : s.heap.DictRaw d es ep) (hn : es.size ≤ sizeLine)
    (h : ∀ (h' : Heap) (tk : Nat) (acc : Array Value), (∀ b o, s.heap.get? b = some o → h'.get? b = some o) → ItemsOf (fun i v => ∃ hi : i < es.size, v = es[i].key) acc es.size →
      Q₁ (.ref h'.objs.size) { s with heap := h'.push { cls := .type "tuple", data := .seq acc }, toks := tk }) :
    codeAny (model prog w) A (.call (.builtin "tuple.__new__") ⟨[.type "tuple", .ref d], []⟩) (wants Q₁ E) s := by
  refine codeAny_of_tree ?_
  show wpAny _ A.in1 (do checkBuiltinCall "tuple.__new__" ⟨[.type "tuple", .ref d], []⟩; again (.builtin "tuple.__new__" ⟨[.type "tuple", .ref d], []⟩)) _ _ s
  refine wpAny_bind (wpAny_of_eq (F.newCall_tuple_1 _) (wpAny_pure ⟨plainId_quiet F.plain_tuple_new _, codeAny_builtin F.entry_tuple_new ?_⟩))
  rw [Around.under_plainId F.plain_tuple_new _]
  have hsub := sub_tuple_self
  have hinit := init_tuple_lookup
  have hmh := madeHere_tuple
  have hTI : s.TypeIs (.ref d) "dict" := hd.typeIs
  have hh1 : A.in1.handled = none := hh
  wp_walk using wpAny_typeOf hTI, collect_dict (A := A.in1) hh1 lo hd hn
  intro h' tk acc hk hacc
  show wpAny _ _ (Builtin.Tuple.tupleExact acc.toList.toArray >>= fun v => ret v) _ _ _
  unfold Builtin.Tuple.tupleExact
  refine wpAny_bind (wpAny_newObj_type ?_ (by show acc.toList.toArray.size ≤ sizeLine; simp only [Array.toArray_toList]; rw [hacc.1]; exact hn))
  refine wpAny_pure ?_
  have e : acc.toList.toArray = acc := by simp
  rw [e]
  exact h h' tk acc hk hacc
theorem call_tuple_dict {Q : Value → Shared → Prop} (hh : A.handled = none) (lo : (d == sysModules) = false) (hd : s.heap.DictRaw d es ep) (hn : es.size ≤ sizeLine)
    (hQ : ∀ (h' : Heap) (tk : Nat) (acc : Array Value), (∀ b o, s.heap.get? b = some o → h'.get? b = some o) → ItemsOf (fun i v => ∃ hi : i < es.size, v = es[i].key) acc es.size →
      Q (.ref h'.objs.size) { s with heap := h'.push { cls := .type "tuple", data := .seq acc }, toks := tk }) :
    wpAny (model prog w) A (call (.type "tuple") [.ref d]) Q E s := by
  refine callType_codes (Q₁ := fun obj s₁ => s₁.TypeIs obj "tuple" ∧ Q obj s₁) F.called_tuple (F.typeCall_tuple_1 _) F.entry_object_init
    (code_tuple_new_dict (A := A.in1) hh lo hd hn fun h' tk acc hk hacc => ⟨⟨_, Heap.get?_push_size _ rfl, rfl⟩, hQ h' tk acc hk hacc⟩) fun obj s₁ h₁ => ?_
  exact ⟨h₁.1, F.args_object_init_2 obj _, object_init_meets F.called_tuple.init.lookup F.called_tuple.made (by decide) prog w A.in1 _ s₁ ⟨h₁.1, rfl, h₁.2⟩⟩
end
/-! ### what the heap tells of such a dict -/
section
variable {X : Cx} {pins : List (Addr × Obj)} {σ : L2.St} {H : Hp} {s : Shared}
theorem dn_raw {a : Addr} {xs : List (NestedKey × Addr × Value)} (I : Inv X pins σ H s) (e : Rd H a (DN X.prog X.w a xs)) : (a == sysModules) = false ∧ xs.length ≤ sizeLine ∧ ∃ es ep, s.heap.DictRaw a es ep ∧ es.toList = xs.map (entryOfKey (nestedKind X.prog X.w)) := by
  obtain ⟨⟨o, es, ep, h1, h2, h3, h4, h5, h6, h7⟩, _, _⟩ := (show ObjOk X.prog X.w H s.heap a (DN X.prog X.w a xs) from e.ok I.hok)
  exact ⟨h7, h6, es, ep, ⟨o, h1, h2, h3⟩, h4⟩
theorem ent_size {P : Program} {w : World} {es : Array DictEntry} {xs : List (NestedKey × Addr × Value)} (h : es.toList = xs.map (entryOfKey (nestedKind P w))) : es.size = xs.length := by
  rw [← Array.length_toList, h, List.length_map]
theorem ent_at {P : Program} {w : World} {es : Array DictEntry} {xs : List (NestedKey × Addr × Value)} (h : es.toList = xs.map (entryOfKey (nestedKind P w))) {i : Nat} {x : NestedKey × Addr × Value} (hx : xs[i]? = some x) : es[i]? = some (entryOfKey (nestedKind P w) x) := by
  rw [← Array.getElem?_toList, h, List.getElem?_map, hx]
  rfl
def rTupD (P : Program) (w : World) : List V → Hp → VK → Prop := fun vs H Q => ∃ a xs, vs = [V.ref a] ∧ Rd H a (DN P w a xs) ∧ ∀ q, H q = none → Q (.ref q) (upd H q (.tup (xs.map fun x => V.ref x.2.1)))
theorem vals_keys {P : Program} {w : World} {es : Array DictEntry} : ∀ {xs : List (NestedKey × Addr × Value)} {us : List Value}, us.length = xs.length → (∀ (i : Nat) (x : NestedKey × Addr × Value), xs[i]? = some x → us[i]? = some (Value.ref x.2.1)) → Vals (xs.map fun x => V.ref x.2.1) us
  | [], [], _, _ => .nil
  | x :: r, u :: us, hl, h => by
    have h0 := h 0 x rfl
    simp only [List.getElem?_cons_zero, Option.some.injEq] at h0
    subst h0
    exact .cons rfl (vals_keys (P := P) (w := w) (es := es) (by simpa using hl) fun i y e => by simpa using h (i + 1) y (by simpa using e))
theorem call_tupD (hc : X.calm = true) : CallR X (.type "tuple") (rTupD X.prog X.w) := by
  intro pins s σ H vs us Q I r h
  obtain ⟨a, xs, rfl, e, q⟩ := h
  rw [Vals.ref1 r]
  obtain ⟨lo, hz, es, ep, hd, he⟩ := dn_raw I e
  have hs := ent_size he
  refine call_tuple_dict (I.ok.hd hc) lo hd (by rw [hs]; exact hz) fun h' tk acc hk hacc => ?_
  have I1 : Inv X pins σ H { s with heap := h', toks := tk } := I.kept hk
  have rv : Vals (xs.map fun x => V.ref x.2.1) acc.toList := by
    refine vals_keys (P := X.prog) (w := X.w) (es := es) (by rw [Array.length_toList, hacc.1, hs]) fun i x hx => ?_
    have hi : i < acc.size := by
      rw [hacc.1, hs]
      exact (List.getElem?_eq_some_iff.mp hx).1
    have hv : acc[i]? = some acc[i] := Array.getElem?_eq_getElem hi
    obtain ⟨hj, ev⟩ := hacc.2 i _ hv
    have en := ent_at he hx
    rw [Array.getElem?_eq_getElem hj] at en
    have en' := Option.some.inj en
    rw [Array.getElem?_toList, hv, ev, en']
    rfl
  have I2 : Inv X pins σ (upd H h'.objs.size (.tup (xs.map fun x => V.ref x.2.1))) { s with heap := h'.push { cls := .type "tuple", data := .seq acc }, toks := tk } :=
    I1.laid (t' := tk) (fun b o e => Heap.get?_push_of_some _ e) (Nat.le_refl _) (show ObjOk X.prog X.w _ _ _ (.tup _) from ⟨by rw [List.length_map]; exact hz, acc.toList, rv, by simpa using (IsTup.new h' acc)⟩)
  exact ⟨.ref h'.objs.size, _, I2, rfl, q _ (I1.hok.fresh (Nat.le_refl _))⟩
end
/-- the keys of the locked dict at d, in their order -/
def Itkn (P : Program) (w : World) (d : Addr) (o : Obj) (xs : List (NestedKey × Addr × Value)) : It :=
  ⟨fun i H => H d = some (.frz o (DN P w d xs)) ∧ i < xs.length, fun i H x H' => H' = H ∧ ∃ k q v, xs[i]? = some (k, q, v) ∧ x = .ref q, fun i H => H d = some (.frz o (DN P w d xs)) ∧ xs.length ≤ i⟩
section
variable {P : Program} {w : World} {K : PySem.W.Frag} {tg : Expr} {d : Addr} {o : Obj} {es : Array DictEntry} {ep : Nat}
theorem frz_raw {X : Cx} {pins : List (Addr × Obj)} {σ : L2.St} {H : Hp} {s : Shared} {xs : List (NestedKey × Addr × Value)} (I : Inv X pins σ H s) (h : H d = some (.frz o (DN X.prog X.w d xs))) :
    (d == sysModules) = false ∧ s.heap.get? d = some o ∧ o.ExactDict ∧ ∃ es ep, o.data = .dict es ep ∧ es.toList = xs.map (entryOfKey (nestedKind X.prog X.w)) := by
  obtain ⟨hd, ⟨o', es, ep, h1, h2, h3, h4, h5, h6, h7⟩, _, _⟩ := (show ObjOk X.prog X.w H s.heap d (.frz o (DN X.prog X.w d xs)) from I.hok d _ h)
  rw [hd] at h1
  cases h1
  exact ⟨h7, hd, h2, es, ep, h3, h4⟩
theorem turn_keysN {xs : List (NestedKey × Addr × Value)} (it : Addr) (hod : o.data = .dict es ep) : Turn P w K tg (Itkn P w d o xs) [it] it (fun i h => h.IsKeyIter it d i xs.length ep) where
  mem := by simp
  obj := fun i h st b hb => by
    have e : b = it := by simpa using hb
    subst e
    obtain ⟨oi, e, c, dd⟩ := st
    exact ⟨oi, e, fun v z => by rw [dd] at z; cases z⟩
  keep := fun i h h' st k => st.at fun oi e => k it (by simp) oi e
  item := by
    intro X hP hw hK hc i pins s σ H E I hf st hg
    subst hP hw hK
    obtain ⟨hd, hi⟩ := hg
    obtain ⟨f0, f1, f2, f3, f4, f5⟩ := hf it (by simp)
    obtain ⟨hs, hgd, hx, es', ep', hdt, he⟩ := frz_raw I hd
    obtain ⟨rfl, rfl⟩ := dict_ep hod hdt
    obtain ⟨⟨k, q, v⟩, hkv⟩ : ∃ p, xs[i]? = some p := ⟨xs[i], List.getElem?_eq_getElem hi⟩
    have hen := ent_at he hkv
    refine next_key_item st hgd hdt (ent_size he) hen fun h' st' sb => ?_
    have I1 : Inv X pins σ H { s with heap := h' } := I.turned (t' := s.toks) (fun b ob hb e => (sb.2 b hb).trans e) f0 f1 f3 f4 f5
    obtain ⟨oi, e, c, dd⟩ := id st'
    exact ⟨_, rfl, go_of (s := { s with heap := h' }) e c dd (by decide) ⟨.ref q, H, I1, rfl, ⟨rfl, k, q, v, hkv, rfl⟩, st', fun b hb => (hf b hb).1⟩⟩
  done := by
    intro X hP hw hK hc i pins s σ H E I hf st hg
    subst hP hw hK
    obtain ⟨hd, hi⟩ := hg
    obtain ⟨f0, f1, f2, f3, f4, f5⟩ := hf it (by simp)
    obtain ⟨hs, hgd, hx, es', ep', hdt, he⟩ := frz_raw I hd
    obtain ⟨rfl, rfl⟩ := dict_ep hod hdt
    exact next_key_end (I.ok.hd hc) st hgd hdt (ent_size he) hi fun h' eb => ⟨rfl, I.turned (t' := s.toks) (fun b ob hb e => eb b ob hb e) f0 f1 f3 f4 f5⟩
  self := fun A i s Q E st h => wpAny_pyIter_keyiter st h
end
def iKeysN (P : Program) (w : World) (td : TE) : TI := fun σ H R => td σ H fun x H1 => ∃ d o xs, x = .ref d ∧ H1 d = some (.frz o (DN P w d xs)) ∧ R (Itkn P w d o xs) H1
theorem pi_keysN {X : Cx} {tg e : Expr} {td : TE} (he : PE X e td) : PI X tg e (iKeysN X.prog X.w td) := by
  refine ⟨fun pins s σ H R I h => ?_⟩
  refine thn (he.run pins s σ H _ I h) fun u s1 ⟨x, H1, I1, rx, d, o, xs, ex, hd, q⟩ => ?_
  subst ex
  obtain rfl : u = Value.ref d := rx
  obtain ⟨hs, hgd, hx, es, ep, hdt, he⟩ := frz_raw I1 hd
  refine iter_keys hs hgd hx hdt (pi_one (tk := s1.toks) I1 _ (turn_keysN _ hdt) ⟨_, Heap.get?_push_size _ rfl, rfl, ?_⟩ q)
  rw [ent_size he]
  rfl
variable [WW]
section
variable {K : PySem.W.Frag} {W : WX} {X : Cx}
theorem drel_keys {F : Hp} : ∀ {kvs : List (T × T)} {xs : List (NestedKey × Addr × Value)}, DRel K F kvs xs → RpL K F (xs.map fun x => V.ref x.2.1) (kvs.map (·.1))
  | _, _, .nil => .nil
  | _, _, .cons ⟨_, _, h3, _⟩ r => .cons h3 (drel_keys r)
def gTupD : List Sl → List MO → M Sl
  | [.own i], m => match dctOf m[i]? with
    | some kvs => rM (.val (.tup (kvs.map (·.1)))) m
    | none => none
  | _, _ => none
theorem cv_tupD : CallV K (rTupD WW.p WW.w) gTupD := by
  intro W F A ρ m σ H xs ss Q w rs g
  unfold gTupD at g
  split at g
  · split at g
    · rename_i kvs e
      obtain ⟨x, rfl, rx⟩ := rpSs1 rs
      obtain ⟨ad, ea, rfl⟩ := rx
      obtain ⟨ys, eh, dr⟩ := dctOf_at w.os ea e
      refine ⟨ad, ys, rfl, eh, fun l nl => ?_⟩
      have sN : ∀ o : HO, Same F (upd F l o) := fun o => same_new (w.os.fnone nl)
      exact g.fin (Nxt.new w.os nl) (w.of (sN _) (List.prefix_refl _) (w.os.new nl)) (.tup (SqT.of upd_same) ((drel_keys dr).same (sN _)))
    · exact none_got g
  · exact none_got g
def gKeysD : Sl → List MO → M (List T)
  | .own i, m => match m[i]? with
    | some (.dctL kvs) => rM (kvs.map (·.1)) m
    | _ => none
  | _, _ => none
def vKeysD (f : VE) : VI := fun s => bM (f s) gKeysD
theorem walk_keysN {F : Hp} {A : List Addr} {H : Hp} {d : Addr} {o : Obj} {kvs : List (T × T)} {xs : List (NestedKey × Addr × Value)} (h : F d = some (.frz o (DN WW.p WW.w d xs))) (dr : DRel K F kvs xs) : Walks K F A H (Itkn WW.p WW.w d o xs) (kvs.map (·.1)) := fun F' A' H' m n os i => by
  have h' : H' d = some (.frz o (DN WW.p WW.w d xs)) := os.sub _ _ (n _ _ h)
  have hl : kvs.length = xs.length := Paired.length dr
  refine ⟨fun t e => ?_, fun hi => ⟨h', by rw [List.length_map, hl] at hi; exact hi⟩⟩
  obtain ⟨v, ev, rv⟩ := (drel_keys dr).get e
  have hi : i < xs.length := by
    have := (List.getElem?_eq_some_iff.mp ev).1
    rw [List.length_map] at this
    exact this
  refine ⟨⟨h', hi⟩, fun x H'' ⟨eH, k, q, u, e1, e2⟩ => ?_⟩
  subst eH e2
  rw [List.getElem?_map, e1] at ev
  cases ev
  exact ⟨F', Nxt.refl, os, rv.same n⟩
theorem pi_vkeysD {tg e : Expr} {f : VE} (hp : X.prog = WW.p) (hw : X.w = WW.w) (he : PE X e (LE X.K W f)) : PI X tg e (LI X.K W (vKeysD f)) := PI.imp (pi_keysN he) fun σ H R ⟨F, A, ρ, m, w, g⟩ =>
  ⟨F, A, ρ, m, w, (Got.bind (R1 := rS X.K) g).mono fun x H1 ⟨F1, A1, m1, a, n, w1, ra, q⟩ => by
    unfold gKeysD at q
    split at q
    · rename_i i
      split at q
      · rename_i kvs em
        obtain ⟨ad, ea, rfl⟩ := ra
        obtain ⟨od, xs, eF, dr⟩ := w1.os.obj i ad _ ea em
        rw [hp, hw]
        exact ⟨ad, od, xs, rfl, w1.os.sub _ _ eF, q.now w1 (walk_keysN eF dr)⟩
      · obtain ⟨_, _, z, _⟩ := q; cases z
    · obtain ⟨_, _, z, _⟩ := q; cases z⟩
/-! ### a dict that is changed no more -/
def frzD (i : Nat) (s : S) : S := match s.ρ[i]? with
  | some (some (.own j)) => match s.m[j]? with
    | some (.dct kvs) => ⟨s.ρ, s.m.set j (.dctL kvs)⟩
    | _ => s
  | _ => s
def vFrzD (i : Nat) (f : VS) : VS := fun s => f (frzD i s)
theorem ps_frzD {st : Stmt} {f : VS} (i : Nat) (hp : X.prog = WW.p) (hw : X.w = WW.w) (h : PS X st (LS X.K W f)) : PS X st (LS X.K W (vFrzD i f)) := by
  refine ⟨fun pins s σ H D I ⟨F, A, ρ, m, w, r⟩ => ?_⟩
  unfold vFrzD frzD at r
  split at r
  · rename_i j e
    split at r
    · rename_i kvs em
      simp only at e em
      obtain ⟨v, ev, a, ea, rfl⟩ := w.slot i _ e
      obtain ⟨fa, xs, eh, dr⟩ := w.os.obj j a _ ea em
      obtain ⟨od, I1⟩ := I.lock eh (by unfold DN; exact True.intro)
      have s1 : Same F (upd F a (.frz od (DN WW.p WW.w a xs))) := same_new fa
      have ma : a ∈ A := List.mem_of_getElem? ea
      have n1 : Nxt F A H (upd F a (.frz od (DN WW.p WW.w a xs))) A (upd H a (.frz od (DN WW.p WW.w a xs))) :=
        ⟨s1, List.prefix_refl _, fun b u z => (by
          by_cases y : b = a
          · subst y; exact .inr (.inr ma)
          · rw [upd_ne y] at z; exact .inl z), fun _ h => .inl h, fun b o z hb => .inr (by
          have ne : b ≠ a := fun y => hb (y ▸ ma)
          rw [upd_ne ne]; exact z)⟩
      have o1 : Objs X.K (upd F a (.frz od (DN WW.p WW.w a xs))) A (m.set j (.dctL kvs)) (upd H a (.frz od (DN WW.p WW.w a xs))) := {
        sub := same_upd2 w.os.sub
        len := by rw [List.length_set]; exact w.os.len
        nd := w.os.nd
        there := fun b hb => by
          by_cases y : b = a
          · subst y; exact ⟨_, upd_same⟩
          · rw [upd_ne y]; exact w.os.there b hb
        obj := fun k b o h1 h2 => by
          by_cases z : j = k
          · subst z
            have hl : j < m.length := by
              have := (List.getElem?_eq_some_iff.mp h2).1
              rw [List.length_set] at this
              exact this
            rw [List.getElem?_set_self hl] at h2
            cases h2
            rw [ea] at h1
            cases h1
            exact ⟨od, xs, upd_same, DRel.same s1 dr⟩
          · rw [List.getElem?_set_ne z] at h2
            have ne : b ≠ a := fun q => by
              subst q
              obtain ⟨l1, e1⟩ := List.getElem?_eq_some_iff.mp ea
              obtain ⟨l2, e2⟩ := List.getElem?_eq_some_iff.mp h1
              exact z ((List.getElem_inj w.os.nd).mp (e1.trans e2.symm))
            exact (w.os.obj k b o h1 h2).next s1 (List.prefix_refl _) (fun o e => by rw [upd_ne ne]; exact e) (fun e => by rw [upd_ne ne]; exact e)
        gho := w.os.gho.trans s1
        tab := fun q hq => by
          have ne : q.1 ≠ a := fun z => (w.os.tab q hq).1 (z ▸ ma)
          exact ⟨(w.os.tab q hq).1, (w.os.tab q hq).2.next s1 (by rw [upd_ne ne]; exact (w.os.tab q hq).2.1) (fun o e => by rw [upd_ne ne]; exact e)⟩ }
      exact h.run pins s σ _ D I1 ⟨_, A, ρ, _, w.of s1 (List.prefix_refl _) o1, Ran.later r n1⟩
    · exact h.run pins s σ H D I ⟨F, A, ρ, m, w, r⟩
  · exact h.run pins s σ H D I ⟨F, A, ρ, m, w, r⟩
end
theorem u64 {k : Nat} {A : Around} (r : Room k A) : A.units + 64 < cLine := by have := r.un; omega
theorem call_tupDW {X : Cx} (hp : X.prog = WW.p) (hw : X.w = WW.w) (hc : X.calm = true) : CallR X (.type "tuple") (rTupD WW.p WW.w) := by
  have h := call_tupD hc
  rw [hp, hw] at h
  exact h
end Vs
end
section
/-! VsL: a lambda handed to a def of the module. -/
namespace Vs
open PySem PySem.Spec PyProof.Rows L2
/-! ### the lambda's names -/
/-- its parameters ps; else captured names and globals -/
structure LamP (sc scope : Scope) (ps : List Str) : Prop where
  kind : scope.kind = .function
  co : scope.isCoroutine = false
  gen : scope.isGenerator = false
  par : ∀ p ∈ ps, scope.names.lookup p = some .local
  own : ∀ y ∈ scope.names, y.2 = .local → y.1 ∈ ps
  ncell : ∀ y ∈ scope.names, y.2 ≠ .cell
  free : ∀ y ∈ scope.names, y.2 = .free → sc.names.lookup y.1 = some .cell ∨ sc.names.lookup y.1 = some .free
  nd : ps.Nodup
def lamPB (sc scope : Scope) (ps : List Str) : Bool :=
  decide (scope.kind = .function) && !scope.isCoroutine && !scope.isGenerator && (ps.all fun p => decide (scope.names.lookup p = some .local)) && (scope.names.all fun y => !decide (y.2 = .local) || decide (y.1 ∈ ps)) && (scope.names.all fun y => !decide (y.2 = .cell)) &&
    (scope.names.all fun y => !decide (y.2 = .free) || decide (sc.names.lookup y.1 = some .cell) || decide (sc.names.lookup y.1 = some .free)) && decide ps.Nodup
theorem lamP_by {sc scope : Scope} {ps : List Str} (h : lamPB sc scope ps = true) : LamP sc scope ps := by
  unfold lamPB at h
  simp only [Bool.and_eq_true, Bool.or_eq_true, Bool.not_eq_true', decide_eq_true_eq, decide_eq_false_iff_not, List.all_eq_true] at h
  obtain ⟨⟨⟨⟨⟨⟨⟨h1, h2⟩, h3⟩, h4⟩, h5⟩, h6⟩, h7⟩, h8⟩ := h
  refine ⟨h1, h2, h3, h4, fun y hy e => ?_, h6, fun y hy e => ?_, h8⟩
  · rcases h5 y hy with z | z
    · exact absurd e z
    · exact z
  · rcases h7 y hy with (z | z) | z
    · exact absurd e z
    · exact .inl z
    · exact .inr z
theorem LamP.has {X : Cx} {scope : Scope} {ps : List Str} (L : LamP X.env.scope scope ps) (ok : X.Ok) : ∀ y ∈ scope.names, y.2 = .free → ∃ c, X.env.cells.lookup y.1 = some c := fun y hy e => by
  rcases L.free y hy e with k | k
  · exact ok.has _ (.inl k)
  · exact ok.has _ (.inr k)
/-- the context of its body -/
def lamCxP (X : Cx) (A : Around) (outer : List Env) (s : Shared) (H : Hp) (E : XK) (scope : Scope) (f c' : Addr) (ps : List Str) : Cx := { LamX.lamCx X A outer s H E scope f c' with N := X.N ++ ps }
section
variable {X : Cx} {pins : List (Addr × Obj)} {σ : L2.St} {H HZ : Hp} {s s1 : Shared}
theorem lam_startP {A : Around} {outer : List Env} {E : XK} {scope : Scope} {f c' : Addr} {ps : List Str} {us : List Value} {vs : List V} {h₁ : Heap} {tk : Nat} (I : Inv X pins σ H s) (L : LamP X.env.scope scope ps) (hN : ∀ p ∈ ps, p ∉ X.N) (hl : vs.length = ps.length) (rv : Vals vs us) (e0 : Env0 X.prog X.w X.K X.mg X.base A outer s1 HZ) (hd : A.handled = none)
    (un : Un (frs X.stack) [] H HZ s.heap s1.heap) (hns : h₁.Ns s1.heap.objs.size fun y => (ps.zip us).reverse.lookup y) (kp : ∀ b o, s1.heap.get? b = some o → h₁.get? b = some o) :
    Inv (lamCxP X A outer s1 HZ E scope f c' ps) [] (σ ++ vs.map some) HZ { s1 with heap := h₁, toks := tk } := by
  have hfree := L.has I.ok
  have cm : ∀ {y c}, (cloFrom X.env.cells scope.names []).lookup y = some c → X.env.cells.lookup y = some c := fun {y c} e => by
    rcases cloFrom_mem (PySem.mem_of_lookup e) with hm | ⟨h1, h2⟩
    · cases hm
    · obtain ⟨c1, hc⟩ := hfree _ h1 rfl
      have hc : X.env.cells.lookup y = some c1 := hc
      have e2 : c = c1 := by
        rw [h2, hc] <;> rfl
      rw [e2]
      exact hc
  have look : ∀ {y}, scope.names.lookup y = some .free → ∃ c, (cloFrom X.env.cells scope.names []).lookup y = some c := fun {y} hl => by
    have hy : (y, NameKind.free) ∈ scope.names := PySem.mem_of_lookup hl
    exact mem_lookup (cloFrom_has (cells := X.env.cells) (acc := []) hy)
  have cellK : ∀ {c : Addr} {v : Option Value}, H c = none → s.heap.IsCell c v → h₁.IsCell c v := fun {c v} n ⟨o, ho, hd⟩ => by
    obtain ⟨sl, q⟩ := un.any ho n (by simp)
    exact ⟨_, kp _ _ q, hd⟩
  have noA : ∀ b : Addr, b ∉ (lamCxP X A outer s1 HZ E scope f c' ps).ex := fun b z => absurd (show b ∈ ([] : List Addr) from z) (by simp)
  refine ⟨⟨e0.mod, L.kind, rfl, rfl, Nat.le_refl _, fun y z c e1 e2 => I.ok.inj y z c (cm e1) (cm e2), fun y hy => ?_, fun y c z _ => ?_, fun _ => hd, Around.frames_deeper e0.frames, .inr ⟨rfl, rfl⟩, fun b z => absurd z (noA b), e0.bs, e0.bsz, fun b _ _ => noA b,
      fun b z => absurd z (noA b), e0.funs, e0.frf⟩,
    rfl, e0.bare, Un.kept kp, ⟨_, hns, fun i y v e1 e2 e3 => ?_⟩, fun y c e => ?_, e0.hok.fresh (Nat.le_refl _), fun y c e => ?_, fun q hq => absurd (show q ∈ ([] : List (Addr × Obj)) ++ [] from hq) (by simp), e0.hok.kept kp, ?_⟩
  · have hy : scope.names.lookup y = some .cell ∨ scope.names.lookup y = some .free := hy
    rcases hy with hy | hy
    · exact absurd rfl (L.ncell _ (PySem.mem_of_lookup hy))
    · exact look hy
  · have z : false = true := z
    cases z
  · have e1 : (X.N ++ ps)[i]? = some y := e1
    have e3 : Vis scope y := e3
    by_cases hi : i < X.N.length
    · rw [List.getElem?_append_left hi] at e1
      rw [List.getElem?_append_left (by rw [I.len]; exact hi)] at e2
      rcases e3 with k | k | k
      · exact absurd (List.mem_of_getElem? e1) (hN y (L.own _ (PySem.mem_of_lookup k) rfl))
      · exact absurd rfl (L.ncell _ (PySem.mem_of_lookup k))
      · obtain ⟨m, hn, hl⟩ := I.loc
        have hvis : Vis X.env.scope y := (L.free _ (PySem.mem_of_lookup k) rfl).elim (fun k => .inr (.inl k)) (fun k => .inr (.inr k))
        obtain ⟨w', r, q⟩ := hl i y v e1 e2 hvis
        obtain ⟨c2, h2⟩ := look k
        refine ⟨w', r, .inr ⟨.inr k, c2, h2, ?_⟩⟩
        have c1 := cm h2
        rcases q with ⟨k', _⟩ | ⟨_, c3, e', z⟩
        · have k' : X.env.scope.names.lookup y = some .local := k'
          rcases L.free _ (PySem.mem_of_lookup k) rfl with k2 | k2 <;> rw [show X.env.scope.names.lookup y = _ from k2] at k' <;> cases k'
        · rw [c1] at e'
          cases e'
          exact cellK (I.freeC y _ c1) z
    · rw [List.getElem?_append_right (Nat.le_of_not_lt hi)] at e1
      rw [List.getElem?_append_right (by rw [I.len]; exact Nat.le_of_not_lt hi), I.len, List.getElem?_map] at e2
      cases ev : vs[i - X.N.length]? with
      | none => rw [ev] at e2; cases e2
      | some v' =>
        rw [ev] at e2
        cases e2
        obtain ⟨u, hu, ru⟩ := rv.get ev
        exact ⟨u, ru, .inl ⟨L.par y (List.mem_of_getElem? e1), NdefX.zip_look L.nd e1 hu⟩⟩
  · obtain ⟨w', z⟩ := I.cell y c (cm e)
    exact ⟨w', cellK (I.freeC y c (cm e)) z⟩
  · obtain ⟨v, o, ho, hd⟩ := I.cell y c (cm e)
    exact un.free c o ho (I.freeC y c (cm e)) (by simp)
  · show (σ ++ vs.map some).length = (X.N ++ ps).length
    rw [List.length_append, List.length_append, List.length_map, I.len, hl]
end
/-! ### the lambda is made -/
section
variable {X : Cx} {pins : List (Addr × Obj)} {σ : L2.St} {H : Hp} {s : Shared}
/-- what comes: its code object is new, or told by the table -/
def LamNew (X : Cx) (H : Hp) (P : Addr) (q : Str) (H1 : Hp) (c' : Addr) : Prop :=
  (∃ ps more : Array Value, H P = some (.tbl ps) ∧ H c' = none ∧ H1 = upd (upd H P (.tbl (ps ++ more))) c' (LamX.CodeO c' q) ∧ TriplesOk (ps ++ more).toList ∧ ∀ (pos : Pos) (cv : Value), codeAmong pos (ps ++ more).toList = some cv → codeAmong pos ps.toList = some cv ∨ cv = .ref c') ∨
    (H1 = H ∧ ∃ (ps : Array Value) (pos : Pos), H P = some (.tbl ps) ∧ codeAmong pos ps.toList = some (.ref c'))
theorem lam_make3 {c P : Addr} {ps : Array Value} {params : Arguments} {body : Expr} {scope : Scope} {pos : Pos} {E : Value → Shared → Prop} {Q : Value → Shared → Prop} (I : Inv X pins σ H s) (TB : LamX.TabB X.base X.mg c P) (hcode : X.env.code = .ref c)
    (hP : H P = some (.tbl ps)) (ht : TriplesOk ps.toList) (hrf : ∀ (pos : Pos) (cv : Value), codeAmong pos ps.toList = some cv → ∃ c, cv = .ref c) (hdef : defaultsOf params X.env = ([], [])) (hfree : ∀ y ∈ scope.names, y.2 = .free → ∃ c, X.env.cells.lookup y.1 = some c)
    (h : ∀ (f c' : Addr) (pm ctv : Value) (H1 : Hp) (s' : Shared), Inv X pins σ H1 s' → LamNew X H P (X.env.qual ++ "<lambda>") H1 c' →
      s'.heap.get? f = some (PySem.W.kla_obj "<lambda>" (X.env.qual ++ "<lambda>") params body scope (cloFrom X.env.cells scope.names []) pm c' ctv) → H1 f = none → f ∉ frs X.stack → Q (.ref f) s') :
    wpAny (model X.prog X.w) X.A (eval (.Lambda params body scope pos) X.env) Q E s := by
  refine PySem.W.kla_eval hdef ?_
  have bP : s.heap.BuiltinsAt X.mg P := TB.bm.keeps I.bk
  have hP' : s.heap.get? P = some { cls := .none, data := .fields ps } := I.hok P _ hP
  have nofr : ∀ f, s.heap.objs.size ≤ f → f ∉ frs X.stack := fun f hf z => by
    rcases List.mem_cons.mp (I.stkSub _ z) with e | e
    · have h1 := I.lt
      rw [← e] at h1
      exact Nat.lt_irrefl _ (Nat.lt_of_lt_of_le h1 hf)
    · exact I.nofs hf e
  cases hc : codeAmong pos ps.toList with
  | none =>
    refine PySem.W.kla_makeFunction (mg := X.mg) (c := c) (P := P) (ps := ps) (closure_ok hfree) I.ok.glob (I.mod.glob.keeps I.bk) hcode (TB.code.keeps I.bk) hP' ht hc TB.gP bP fun c' ctv h' tk hx hge hlt hrec htb => ?_
    obtain ⟨c2, oc, vs, t, e2, hoc, hd, hv⟩ := hrec
    cases e2
    have hsz : s.heap.objs.size ≤ h'.objs.size := Nat.le_trans hge (Nat.le_of_lt hlt)
    have nC : H c' = none := I.hok.fresh hge
    have I1 := LamX.inv_table (t' := tk) (more := #[rawInt pos.line, rawInt pos.col, .ref c']) (h' := h'.push (PySem.W.kla_obj "<lambda>" (X.env.qual ++ "<lambda>") params body scope (cloFrom X.env.cells scope.names []) ((X.mg "__name__").getD .none) c' ctv)) I hP
      (fun b o hb e => Heap.get?_push_of_some _ (hx b o hb e)) (Heap.get?_push_of_some _ htb) hge ⟨oc, vs, t, Heap.get?_push_of_some _ hoc, hd, hv⟩
    have eL : (ps ++ #[rawInt pos.line, rawInt pos.col, .ref c']).toList = ps.toList ++ [rawInt pos.line, rawInt pos.col, .ref c'] := by simp
    refine h h'.objs.size c' ((X.mg "__name__").getD .none) ctv _ _ I1 (.inl ⟨ps, _, hP, nC, rfl, ?_, fun p' cv hcv => ?_⟩) (Heap.get?_push_size _ rfl) ?_ (nofr _ hsz)
    · rw [eL]
      exact PySem.TriplesOk_snoc _ _ _ _ ht
    · rw [eL] at hcv
      exact LamX.among_app _ ht hcv
    · have n1 : h'.objs.size ≠ c' := Nat.ne_of_gt hlt
      have n2 : h'.objs.size ≠ P := Nat.ne_of_gt (Nat.lt_of_lt_of_le (Heap.lt_size hP') hsz)
      rw [upd_ne n1, upd_ne n2]
      exact I.hok.fresh hsz
  | some cv =>
    obtain ⟨c', e⟩ := hrf pos cv hc
    subst e
    refine PySem.W.kla_makeFunctionHit (mg := X.mg) (c := c) (P := P) (ps := ps) (closure_ok hfree) I.ok.glob (I.mod.glob.keeps I.bk) hcode (TB.code.keeps I.bk) hP' ht hc bP fun ctv h' tk hx hsz => ?_
    have I1 : Inv X pins σ H { s with heap := h'.push (PySem.W.kla_obj "<lambda>" (X.env.qual ++ "<lambda>") params body scope (cloFrom X.env.cells scope.names []) ((X.mg "__name__").getD .none) c' ctv), toks := tk } := I.kept fun b o e => Heap.get?_push_of_some _ (hx b o e)
    exact h h'.objs.size c' ((X.mg "__name__").getD .none) ctv H _ I1 (.inr ⟨rfl, ps, pos, hP, hc⟩) (Heap.get?_push_size _ rfl) (I.hok.fresh hsz) (nofr _ hsz)
end
/-! ### another beginning -/
theorem MRep.re {p : Program} {w : World} {g g' : Hp} {tb : List (Addr × Str)} {K : PySem.W.Frag} {F : Hp} {α : List Addr} {H : Hp} {a : Addr} {o : MO} (h : @MRep ⟨p, w, g, tb⟩ K F α H a o) : @MRep ⟨p, w, g', tb⟩ K F α H a o := by
  cases o <;> exact h
theorem Objs.re {p : Program} {w : World} {g g' : Hp} {tb : List (Addr × Str)} {K : PySem.W.Frag} {F : Hp} {α : List Addr} {m : List MO} {H : Hp} (o : @Objs ⟨p, w, g, tb⟩ K F α m H) (h : Same g' F) : @Objs ⟨p, w, g', tb⟩ K F α m H :=
  letI : WW := ⟨p, w, g, tb⟩; @Objs.mk ⟨p, w, g', tb⟩ K F α m H o.sub o.len o.nd o.there (fun i a u h1 h2 => MRep.re (o.obj i a u h1 h2)) h o.tab
variable [WW]
section
variable {K : PySem.W.Frag} {F : Hp} {A : List Addr} {ρ : List (Option Sl)} {m : List MO} {σ : L2.St} {H : Hp} {P : Addr} {q : Str}
/-- a table is written -/
theorem Objs.tabPut {ps qs : Array Value} (h : Objs K F A m H) (hm : (P, q) ∈ WW.tb) (hu : ∀ p ∈ WW.tb, p.1 = P → p.2 = q) (hP : H P = some (.tbl ps)) (ht : TriplesOk qs.toList) (hc : ∀ (pos : Pos) (cv : Value), codeAmong pos qs.toList = some cv → ∃ c, cv = .ref c ∧ F c = some (LamX.CodeO c q)) : Objs K F A m (upd H P (.tbl qs)) := by
  obtain ⟨nA, fP, _⟩ := h.tab _ hm
  have ne : ∀ a ∈ A, a ≠ P := fun a ha z => nA (z ▸ ha)
  exact {
    sub := fun b u e => by
      have nb : b ≠ P := fun z => by
        rw [z, fP] at e
        cases e
      rw [upd_ne nb]
      exact h.sub b u e
    len := h.len
    nd := h.nd
    there := fun a ha => by
      obtain ⟨o, e⟩ := h.there a ha
      exact ⟨o, by rw [upd_ne (ne a ha)]; exact e⟩
    obj := fun i a o h1 h2 => (h.obj i a o h1 h2).next (Same.refl _) (List.prefix_refl _) (fun u e => by rw [upd_ne (ne a (List.mem_of_getElem? h1))]; exact e) id
    gho := h.gho
    tab := fun p hp => by
      refine ⟨(h.tab p hp).1, ?_⟩
      by_cases z : p.1 = P
      · rw [hu p hp z, z]
        exact ⟨fP, qs, upd_same, ht, hc⟩
      · exact (h.tab p hp).2.next (Same.refl _) (h.tab p hp).2.1 fun o e => by rw [upd_ne z]; exact e }
theorem Nxt.tabPut {ps qs : Array Value} (hP : H P = some (.tbl ps)) : Nxt F A H F A (upd H P (.tbl qs)) :=
  ⟨Same.refl _, List.prefix_refl _, fun _ _ e => .inl e, fun _ h => .inl h, fun a o e _ => by
    by_cases z : a = P
    · rw [z, hP] at e
      cases e
      exact .inl ⟨ps, rfl, qs, by rw [z, upd_same]⟩
    · exact .inr (by rw [upd_ne z]; exact e)⟩
/-- the state behind the making -/
theorem wd_lam {X : Cx} {H1 : Hp} {c' : Addr} (w : Wd K F A ρ m σ H) (hm : (P, q) ∈ WW.tb) (hu : ∀ p ∈ WW.tb, p.1 = P → p.2 = q) (n : LamNew X H P q H1 c') : ∃ F1, Nxt F A H F1 A H1 ∧ Wd K F1 A ρ m σ H1 ∧ F1 c' = some (LamX.CodeO c' q) := by
  obtain ⟨nA, fP, ps0, h0, _, hc0⟩ := w.os.tab _ hm
  rcases n with ⟨ps, more, hP, nC, rfl, ht, hc⟩ | ⟨rfl, ps, pos, hP, hc⟩
  · obtain rfl : ps = ps0 := HO.tbl.inj (Option.some.inj (hP.symm.trans h0))
    have nPc : P ≠ c' := ne_of_none hP nC
    have n1 : Nxt F A H (upd F c' (LamX.CodeO c' q)) A (upd H c' (LamX.CodeO c' q)) := Nxt.new w.os nC
    have o1 := w.os.new (o := LamX.CodeO c' q) nC
    have hP1 : upd H c' (LamX.CodeO c' q) P = some (.tbl ps) := by rw [upd_ne nPc]; exact hP
    have eq : upd (upd H P (.tbl (ps ++ more))) c' (LamX.CodeO c' q) = upd (upd H c' (LamX.CodeO c' q)) P (.tbl (ps ++ more)) := by
      funext b
      by_cases z : b = c'
      · rw [z, upd_same, upd_ne (Ne.symm nPc), upd_same]
      · rw [upd_ne z]
        by_cases z2 : b = P
        · rw [z2, upd_same, upd_same]
        · rw [upd_ne z2, upd_ne z2, upd_ne z]
    have o2 : Objs K (upd F c' (LamX.CodeO c' q)) A m (upd (upd H c' (LamX.CodeO c' q)) P (.tbl (ps ++ more))) := o1.tabPut hm hu hP1 ht fun pos cv z => by
      rcases hc pos cv z with z | z
      · obtain ⟨c, e1, e2⟩ := hc0 pos cv z
        exact ⟨c, e1, n1.sub _ _ e2⟩
      · exact ⟨c', z, upd_same⟩
    rw [eq]
    exact ⟨_, n1.trans (Nxt.tabPut hP1), w.of n1.sub (List.prefix_refl _) o2, upd_same⟩
  · obtain rfl : ps = ps0 := HO.tbl.inj (Option.some.inj (hP.symm.trans h0))
    obtain ⟨c, e1, e2⟩ := hc0 pos _ hc
    cases e1
    exact ⟨F, Nxt.refl, w, e2⟩
end
/-- the instance that begins with g -/
abbrev WW.at_ (g : Hp) : WW := ⟨WW.p, WW.w, g, WW.tb⟩
section
variable {K : PySem.W.Frag} {W : WX}
theorem call_gotG {np : Nat} {vf : VF} {F : Hp} {A : List Addr} {ρ : List (Option Sl)} {m : List MO} {σ : L2.St} {H : Hp} {vs : List V} {ss : List Sl} {Q : VK} (hl : vs.length = np) (w : Wd K F A ρ m σ H) (rs : RpSs K F A vs ss) (g : Got K W σ ρ F A H (rS K) (callM vf ss m) Q) : @SpV (WW.at_ F) K np vf vs H Q (WE W σ) := by
  unfold callM at g
  simp only at g
  generalize grow m 100 (owns ss) [] = ids at g
  split at g
  · rename_i hn
    split at g
    · rename_i as sub e1 e2
      split at g
      · rename_i o sub' ev
        split at g
        · rename_i hk
          have ol := objs_lent w.os hn e2
          refine ⟨hl, F, lent A ids, as, sub, Objs.re ol (Same.refl _), renSs_rp e1 rs, o, sub', ev, ?_⟩
          obtain ⟨oo, mm, ee, g⟩ := g
          cases ee
          cases o with
          | ok r =>
            intro F' B v H' n o' rv
            obtain ⟨n2, o2, key⟩ := objs_back w.os hn e2 n (Objs.re o' (w.os.gho.trans n.sub)) hk
            exact g F' _ v H' n2 (w.of n2.sub n2.pre o2) (backS_rp key rv)
          | ex C fs =>
            intro F' B d ws H' n o' rf hd
            obtain ⟨n2, o2, key⟩ := objs_back w.os hn e2 n (Objs.re o' (w.os.gho.trans n.sub)) hk
            exact g F' _ d ws H' n2 (w.of n2.sub n2.pre o2) rf hd
        · exact none_got g
      · exact none_got g
    · exact none_got g
  · exact none_got g
end
/-! ### function values -/
/-- called from any later state of the frame Z it keeps to sp -/
def Acts (Z : Cx) (fl : Addr) (sp : Sp) : Prop := ∀ (pins : List (Addr × Obj)) (σ : L2.St) (H : Hp) (s : Shared), Inv Z pins σ H s → PySem.W.FnAt fl s.heap ∧
  ∀ (us : List Value) (vs : List V) (Q : VK) (E : XK), Vals vs us → sp vs H Q E → codeAny (model Z.prog Z.w) Z.A (.call (.ref fl) ⟨us, []⟩) (CR (L2.CX Z.prog Z.w) Z.stack Z.prog Z.w H s Q E) s
def vCallF (i : Nat) (fl : Addr) (vf : VF) (fa : VA) : VE := fun s => match s.ρ[i]? with
  | some (some (.val (.cst (.ref f)))) => if f = fl then bM (fa s) fun ss m => callM vf ss m else none
  | _ => none
section
variable {X : Cx} {W : WX}
theorem run_act {np : Nat} {fl : Addr} {vf : VF} {pins : List (Addr × Obj)} {σ : L2.St} {H : Hp} {s : Shared} {Q : VK} {us : List Value} {vs : List V} (act : Acts X fl (SpV X.K np vf)) (tk : Takes X W) (I : Inv X pins σ H s) (r : Vals vs us) (q : SpV X.K np vf vs H Q (WE W σ)) :
    wpAny (model X.prog X.w) X.A (call (.ref fl) us) (EP X pins σ Q) X.xe s := by
  refine wpAny_call (codeAny_mono ((act _ _ _ _ I).2 us vs _ _ r q) fun rs s3 got => ?_)
  match rs, got with
  | .error er, got => exact passAt tk σ pins H s er s3 I got
  | .ok (.ret v), got => exact I.after got
  | .ok .next, got => exact got.elim
  | .ok .brk, got => exact got.elim
  | .ok .cont, got => exact got.elim
theorem pe_vcallF {i np : Nat} {fl : Addr} {vf : VF} {fa : VA} {x : Str} {e : Expr} {es : List Expr} {p pos : Pos} (act : Acts X fl (SpV X.K np vf)) (hN : X.N[i]? = some x) (hv : Vis X.env.scope x) (tk : Takes X W) (ha : PA X (e :: es) (LA X.K W fa)) (hn : ∀ s ss m, fa s = some (.ok ss, m) → ss.length = np)
    (hdb : (x == ("__debug__" : Str)) = false := by decide) (hcd : (x == ("__classdict__" : Str)) = false := by decide) (he : starEach (e :: es) X.env = (false, eval e X.env) :: starEach es X.env := by rfl) (hpl : (backTo pos (starEach es X.env)).any (·.1) = false := by rfl) :
    PE X (.Call (.Name x p) (e :: es) [] pos) (LE X.K W (vCallF i fl vf fa)) := by
  refine ⟨fun pins s σ H Q I ⟨F, A, ρ, m, w, g⟩ => ?_⟩
  unfold vCallF at g
  split at g
  · rename_i f ef
    split at g
    · rename_i hf
      subst hf
      obtain ⟨v, es, rv⟩ := w.slot i _ ef
      cases rv
      refine wpAny_Call_Name_kw (thn ((pe_var (pos := p) hN hv hdb hcd).run pins s σ H (fun v H1 => v = .ref f ∧ H1 = H) I ⟨.ref f, es, rfl, rfl⟩) fun u s1 ⟨v, H1, I1, r1, q1⟩ => ?_)
      obtain ⟨rfl, rfl⟩ := q1
      cases r1
      have h2 : tCallS (SpV X.K np vf) (WE W) (LA X.K W fa) σ H1 Q := le_call hn ⟨F, A, ρ, m, w, g⟩
      refine PySem.W.callWith_F (act _ _ _ _ I1).1 (thn (ha.run pos pins s1 σ _ _ I1 h2) fun us s2 ⟨vs, H2, I2, r, q⟩ => ⟨(act _ _ _ _ I2).1, ?_⟩) he hpl
      exact run_act act tk I2 r q
    · exact none_got g
  · exact none_got g
end
/-! ### defs that are handed a function -/
structure FnLam (P : Program) (w : World) (K : PySem.W.Frag) (mg : Str → Option Value) (base : Heap) (k : Nat) (f : Addr) (fd : FuncData) (ps : List Str) (np nl : Nat) (vfG : Addr → VF → VF) : Prop where
  go : ∀ (B : Around) (up : List Env) (t : Shared) (G : Hp) (ar : Args) (xs : List Value) (ws : List V) (R : VK) (Ex : XK) (fl : Addr) (vf : VF), Room k B → Env0 P w K mg base B up t G → BindsTo t fd ar (ps.zip xs) → Vals ws xs →
    (∀ (N : List Str) (qual : Str) (scope : Scope) (cdv : Value), Acts (cxOf (L2.CX P w) P w K mg base N qual scope f cdv B up t G Ex) fl (SpV K nl vf)) → SpV K np (vfG fl vf) ws G R Ex → codeAny (model P w) B (.call (.ref f) ar) (CR (L2.CX P w) up P w G t R Ex) t
section
variable {P : Program} {w : World} {K : PySem.W.Frag} {mg : Str → Option Value} {base : Heap}
theorem okVL {x qual : Str} {st : Stmt} {f : Addr} {fd : FuncData} {N ps : List Str} {k nl : Nat} {b : Addr → VF → VS} (F : Fun K x qual st f fd) (S : FnScope N ps (defScope st))
    (hb : ∀ (cdv : Value) (A : Around) (outer : List Env) (s : Shared) (H : Hp) (E : XK) (fl : Addr) (vf : VF), Room k (A.deeper (envOfC qual (defScope st) s.heap.objs.size f cdv)) → Acts (cxOf (L2.CX P w) P w K mg base N qual (defScope st) f cdv A outer s H E) fl (SpV K nl vf) →
      PSs (cxOf (L2.CX P w) P w K mg base N qual (defScope st) f cdv A outer s H E) (defBody st) (LS K (fun cls d _ H => E cls d H) (b fl vf))) : FnLam P w K mg base (k + 1) f fd ps ps.length nl (fun fl vf => vDef N.length (b fl vf)) := by
  obtain ⟨oc, od, kV, doc, pm, an, cdv, ct, osl, rfl, lk, hcd⟩ := F.ex
  refine ⟨fun B up t G ar xs ws R Ex fl vf hr e0 hbi rv act hsp => ?_⟩
  refine LamX.run_ofS lk hcd S hr e0 hbi rv hsp.1 fun hr' => ⟨_, hb cdv B up t G Ex fl vf hr' (act _ _ _ _), ?_⟩
  obtain ⟨_, F0, A0, args, m, o, r, out, m', ev, hq⟩ := hsp
  unfold vDef at ev
  refine ⟨F0, A0, _, m, wd_start (N := N) o r, ?_⟩
  split at ev
  · rename_i rr s' eb
    cases ev
    exact ⟨_, _, eb, fun F' A' σ' v H' n w' rv => hq F' A' v H' n w'.os rv⟩
  · rename_i s' eb
    cases ev
    exact ⟨_, _, eb, fun F' A' σ' H' n w' => hq F' A' .non H' n w'.os (show Rp K F' .non .non from .non)⟩
  · rename_i C fs s' eb
    cases ev
    exact ⟨_, _, eb, fun F' A' σ' d ws H' n w' rf hd => hq F' A' d ws H' n w'.os rf hd⟩
  · cases ev
end
/-! ### what the maker hands over -/
def capO : Option Sl → Option Sl
  | some (.val t) => some (.val t)
  | _ => none
/-- what is captured: what is never changed -/
def capS (ρ : List (Option Sl)) : List (Option Sl) := ρ.map capO
def lamF (fe : VE) (ρ : List (Option Sl)) : VF := fun args m => fe ⟨ρ ++ args.map some, m⟩
theorem capO_some {o : Option Sl} {r : Sl} (h : capO o = some r) : ∃ t, o = some (.val t) ∧ r = .val t := by
  unfold capO at h
  split at h
  · cases h
    exact ⟨_, rfl, rfl⟩
  · cases h
section
variable {X : Cx} {pins : List (Addr × Obj)} {σ : L2.St} {F H : Hp} {A : List Addr} {ρ : List (Option Sl)} {m : List MO} {s : Shared}
theorem acts_lam {scope : Scope} {ps : List Str} {params : Arguments} {body : Expr} {f c' : Addr} {pm ctv : Value} {fe : VE} {kb : Nat} (I : Inv X pins σ H s) (w : Wd X.K F A ρ m σ H) (L : LamP X.env.scope scope ps) (hN : ∀ p ∈ ps, p ∉ X.N)
    (hf : s.heap.get? f = some (PySem.W.kla_obj "<lambda>" (X.env.qual ++ "<lambda>") params body scope (cloFrom X.env.cells scope.names []) pm c' ctv)) (hfn : H f = none) (hfr : f ∉ frs X.stack) (hc : F c' = some (LamX.CodeO c' (X.env.qual ++ "<lambda>")))
    (hbind : ∀ (q : Str) (cl : List (Str × Addr)) (pm cv ctv : Value) (us : List Value), us.length = ps.length → bindArgs (PySem.W.kla_fn "<lambda>" q params body scope cl pm cv ctv) ⟨us, []⟩ = pure (ps.zip us))
    (hbody : ∀ (A : Around) (outer : List Env) (s : Shared) (H : Hp) (E : XK) (f c' : Addr), Room kb (A.deeper (LamX.lamEnv X scope s.heap.objs.size f c')) → PE (lamCxP X A outer s H E scope f c' ps) body (@LE (WW.at_ F) X.K (fun cls d _ H => E cls d H) fe))
    (hr : Room (kb + 2) X.A) (Ng : List Str) (qg : Str) (sg : Scope) (g : Addr) (cdg : Value) (Eg : XK) :
    Acts (cxOf (L2.CX X.prog X.w) X.prog X.w X.K X.mg X.base Ng qg sg g cdg X.A X.stack s H Eg) f (@SpV (WW.at_ F) X.K ps.length (lamF fe (capS ρ))) := by
  intro pinsZ σZ HZ sZ IZ
  have un : Un (frs X.stack) [] H HZ s.heap sZ.heap := IZ.base
  have of1 : sZ.heap.get? f = some (PySem.W.kla_obj "<lambda>" (X.env.qual ++ "<lambda>") params body scope (cloFrom X.env.cells scope.names []) pm c' ctv) := IZ.base.keep f _ hf hfn hfr (fun z => nomatch (show f ∈ ([] : List Addr) from z))
  refine ⟨⟨_, _, _, _, of1⟩, fun us vs Q E rv hsp => ?_⟩
  obtain ⟨hl, F2, A2, args, m2, o2, r2, out, m', ev, hq⟩ := hsp
  have og : Same F F2 := @Objs.gho (WW.at_ F) _ _ _ _ _ o2
  have osb : Same F2 HZ := @Objs.sub (WW.at_ F) _ _ _ _ _ o2
  have hcZ : HZ c' = some (LamX.CodeO c' (X.env.qual ++ "<lambda>")) := osb _ _ (og _ _ hc)
  obtain ⟨⟨oc, cs, t, hoc, hdc, hvc⟩, _, _⟩ := IZ.hok c' _ hcZ
  have hrZ : Room (kb + 1) (X.A.deeper (envOfC qg sg s.heap.objs.size g cdg)) := hr.deeper _
  show codeAny (model X.prog X.w) (X.A.deeper (envOfC qg sg s.heap.objs.size g cdg)) (.call (.ref f) ⟨us, []⟩) (CR (L2.CX X.prog X.w) (envOfC qg sg s.heap.objs.size g cdg :: X.stack) X.prog X.w HZ sZ Q E) sZ
  refine PySem.W.kla_callFunE hrZ.depth of1 rfl L.co L.gen rfl ⟨c', oc, cs, t, rfl, hoc, hdc, hvc⟩ ?_
  rw [hbind _ _ _ _ _ us (rv.length.symm.trans hl)]
  refine wpAny_pure (wpAny_newFunctionEnv (fun y hy => L.ncell y hy) (fun y hy => L.par _ (List.of_mem_zip hy).1) (fun h₁ hns hsb => ⟨IZ.nolimit.fresh _ hsb, ?_⟩) L.kind)
  show codeAny _ _ (.expr body (LamX.lamEnv X scope sZ.heap.objs.size f c')) _ _
  have kp : ∀ b o, sZ.heap.get? b = some o → h₁.get? b = some o := fun b o e => hsb.extBut b o (Nat.ne_of_lt (Heap.lt_size e)) (Heap.get?_push_of_some _ e)
  have J : Inv (lamCxP X (X.A.deeper (envOfC qg sg s.heap.objs.size g cdg)) (envOfC qg sg s.heap.objs.size g cdg :: X.stack) sZ HZ E scope f c' ps) [] (σ ++ vs.map some) HZ { sZ with heap := h₁, toks := sZ.toks + (ps.zip us).length } :=
    lam_startP I L hN hl rv IZ.env0 hrZ.hd un hns kp
  have ht : @LE (WW.at_ F) X.K (fun cls d _ H => E cls d H) fe (σ ++ vs.map some) HZ Q := by
    refine ⟨F2, A2, capS ρ ++ args.map some, m2, @Wd.mk (WW.at_ F) X.K F2 A2 _ m2 _ HZ o2 (fun i r e => ?_) ?_, out, m', ev, ?_⟩
    · have hlen : ρ.length = σ.length := w.slen
      by_cases hi : i < ρ.length
      · rw [List.getElem?_append_left (by unfold capS; rw [List.length_map]; exact hi)] at e
        unfold capS at e
        rw [List.getElem?_map] at e
        cases eo : ρ[i]? with
        | none => rw [eo] at e; cases e
        | some o =>
          rw [eo] at e
          obtain ⟨t, rfl, rfl⟩ := capO_some (Option.some.inj e)
          obtain ⟨v, ev', rr⟩ := w.slot i _ eo
          refine ⟨v, by rw [List.getElem?_append_left (by rw [← hlen]; exact hi)]; exact ev', ?_⟩
          exact Rp.same og rr
      · rw [List.getElem?_append_right (by unfold capS; rw [List.length_map]; exact Nat.le_of_not_lt hi)] at e
        unfold capS at e
        rw [List.length_map, List.getElem?_map] at e
        cases ea : args[i - ρ.length]? with
        | none => rw [ea] at e; cases e
        | some a =>
          rw [ea] at e
          cases e
          obtain ⟨v, ev', rr⟩ := r2.get ea
          refine ⟨v, ?_, rr⟩
          rw [List.getElem?_append_right (by rw [← hlen]; exact Nat.le_of_not_lt hi), ← hlen, List.getElem?_map, ev']
          rfl
    · unfold capS
      rw [List.length_append, List.length_append, List.length_map, List.length_map, List.length_map, w.slen, RpSs.length r2]
    · cases out with
      | ok r => exact fun F' A' v H' n w' rv' => hq F' A' v H' n (@Wd.os (WW.at_ F) _ _ _ _ _ _ _ w') rv'
      | ex C fs => exact fun F' A' d ws H' n w' rf hd => hq F' A' d ws H' n (@Wd.os (WW.at_ F) _ _ _ _ _ _ _ w') rf hd
  refine PySem.W.kla_codeExpr (wpAny_mono ((hbody _ _ sZ HZ E f c' (hrZ.deeper _)).run [] _ _ HZ Q J ht) (fun v s' hq => ?_) fun e s' hq => hq)
  obtain ⟨w', H', J', rv', q⟩ := hq
  exact ⟨w', H', J'.os, J'.bare, J'.base, J'.hok, rv', q⟩
end
/-! ### a def called with a lambda -/
abbrev cst0 : Sl := .val (.cst (.ref 0))
theorem owns_last {t : T} : ∀ ss : List Sl, owns (ss ++ [.val t]) = owns ss
  | [] => rfl
  | .own i :: r => by
    show i :: owns (r ++ [.val t]) = i :: owns r
    rw [owns_last r]
  | .val u :: r => owns_last r
theorem ren_last {ids : List Nat} {t : T} : ∀ ss : List Sl, renSs ids (ss ++ [.val t]) = (renSs ids ss).map (· ++ [.val t])
  | [] => rfl
  | s :: r => by
    show renSs ids (s :: (r ++ [.val t])) = _
    unfold renSs
    rw [ren_last r]
    cases renS ids s with
    | none => rfl
    | some a =>
      cases renSs ids r with
      | none => rfl
      | some b => rfl
theorem ren_len {ids : List Nat} : ∀ {ss as : List Sl}, renSs ids ss = some as → as.length = ss.length
  | [], as, h => by cases h; rfl
  | s :: r, as, h => by
    unfold renSs at h
    split at h
    · rename_i t u h1 h2
      cases h
      rw [List.length_cons, List.length_cons, ren_len h2]
    · cases h
theorem callM_ind {np : Nat} {vfG : Addr → VF → VF} (ind : ∀ (f : Addr) (vf : VF) (args : List Sl) (m : List MO), args.length + 1 = np → vfG f vf (args ++ [.val (.cst (.ref f))]) m = vfG 0 vf (args ++ [cst0]) m) (f : Addr) (vf : VF) (ss : List Sl) (m : List MO) (hss : ss.length + 1 = np) :
    callM (vfG f vf) (ss ++ [.val (.cst (.ref f))]) m = callM (vfG 0 vf) (ss ++ [cst0]) m := by
  unfold callM
  simp only [owns_last, ren_last]
  generalize grow m 100 (owns ss) [] = ids
  cases er : renSs ids ss with
  | none => rfl
  | some as =>
    cases renMs ids m ids with
    | none => rfl
    | some sub => simp only [Option.map_some, ind f vf as sub (by rw [ren_len er]; exact hss)]
theorem RpSs.append {K : PySem.W.Frag} {F : Hp} {A : List Addr} : ∀ {vs us : List V} {ss ts : List Sl}, RpSs K F A vs ss → RpSs K F A us ts → RpSs K F A (vs ++ us) (ss ++ ts)
  | _, _, _, _, .nil, q => q
  | _, _, _, _, .cons a r, q => .cons a (RpSs.append r q)
/-- a def of the module that takes a function last -/
structure FL (P : Program) (w : World) (K : PySem.W.Frag) (mg : Str → Option Value) (base : Heap) (x : Str) (k np nl : Nat) (vfG : Addr → VF → VF) where
  a : Addr
  fd : FuncData
  ps : List Str
  m : mg x = some (.ref a)
  kp : PySem.W.keepIn K (.ref a) = true
  b : Binds K fd ps []
  len : ps.length = np
  g : ∀ g : Hp, @FnLam (WW.at_ g) P w K mg base k a fd ps np nl vfG
  ind : ∀ (f : Addr) (vf : VF) (args : List Sl) (m : List MO), args.length + 1 = np → vfG f vf (args ++ [.val (.cst (.ref f))]) m = vfG 0 vf (args ++ [cst0]) m
def vLam1 (vfG : Addr → VF → VF) (fe f1 : VE) : VE := fun s => bM (f1 s) fun a m1 => callM (vfG 0 (lamF fe (capS s.ρ))) [a, cst0] m1
/-- what a lambda asks of its maker -/
structure LamOk (X : Cx) (c P : Addr) (params : Arguments) (body : Expr) (scope : Scope) (ps : List Str) (kb : Nat) (fe : VE) : Prop where
  TB : LamX.TabB X.base X.mg c P
  code : X.env.code = .ref c
  tb : (P, X.env.qual ++ "<lambda>") ∈ WW.tb
  one : ∀ p ∈ WW.tb, p.1 = P → p.2 = X.env.qual ++ "<lambda>"
  L : LamP X.env.scope scope ps
  new : ∀ p ∈ ps, p ∉ X.N
  dflt : defaultsOf params X.env = ([], [])
  bind : ∀ (q : Str) (cl : List (Str × Addr)) (pm cv ctv : Value) (us : List Value), us.length = ps.length → bindArgs (PySem.W.kla_fn "<lambda>" q params body scope cl pm cv ctv) ⟨us, []⟩ = pure (ps.zip us)
  run : ∀ (g : Hp) (A : Around) (outer : List Env) (s : Shared) (H : Hp) (E : XK) (f c' : Addr), Room kb (A.deeper (LamX.lamEnv X scope s.heap.objs.size f c')) → PE (lamCxP X A outer s H E scope f c' ps) body (@LE (WW.at_ g) X.K (fun cls d _ H => E cls d H) fe)
section
variable {X : Cx} {W : WX} {x : Str} {k kb np : Nat} {vfG : Addr → VF → VF} {c P : Addr} {params : Arguments} {body : Expr} {scope : Scope} {ps : List Str} {fe : VE} {lpos p pos : Pos}
theorem lam_call {pins : List (Addr × Obj)} {σ : L2.St} {F H : Hp} {A : List Addr} {ρ : List (Option Sl)} {m : List MO} {s : Shared} {us : List Value} {vs : List V} {ss : List Sl} {Q : VK} (D : FL X.prog X.w X.K X.mg X.base x k np ps.length vfG) (O : LamOk X c P params body scope ps kb fe) (hr : Room k X.A) (hr2 : Room (kb + 2) X.A) (tk : Takes X W)
    (I : Inv X pins σ H s) (w : Wd X.K F A ρ m σ H) (rv : Vals vs us) (rs : RpSs X.K F A vs ss) (hl : vs.length + 1 = np) (g : Got X.K W σ ρ F A H (rS X.K) (callM (vfG 0 (lamF fe (capS ρ))) (ss ++ [cst0]) m) Q) :
    wpAny (model X.prog X.w) X.A (spliced [(false, eval (.Lambda params body scope lpos) X.env)]) (fun zs s1 => X.K.In s1.heap ∧ wpAny (model X.prog X.w) X.A (call (.ref D.a) (us ++ zs)) (EP X pins σ Q) X.xe s1) X.xe s := by
  obtain ⟨nA, fP, ps0, hP, ht, hc0⟩ := w.os.tab _ O.tb
  refine Calls.spliced_cons (lam_make3 I O.TB O.code hP ht (fun pos cv z => let ⟨c, e, _⟩ := hc0 pos cv z; ⟨c, e⟩) O.dflt (O.L.has I.ok) fun f c' pm ctv H1 s' I1 n hf hfn hfr => ?_)
  refine Calls.spliced_nil ⟨I1.kIn, ?_⟩
  obtain ⟨F1, n1, w1, hc⟩ := wd_lam w O.tb O.one n
  have g1 := Got.later g n1
  rw [← callM_ind D.ind f _ _ _ (by rw [← RpSs.length rs]; exact hl)] at g1
  have sp : @SpV (WW.at_ F1) X.K np (vfG f (lamF fe (capS ρ))) (vs ++ [.ref f]) H1 Q (WE W σ) := call_gotG (by rw [List.length_append]; exact hl) w1 (RpSs.append (rs.next n1.sub n1.pre) (.cons (show RpS X.K F1 A (.ref f) (.val (.cst (.ref f))) from .cst _) .nil)) g1
  have rv1 : Vals (vs ++ [.ref f]) (us ++ [.ref f]) := rv.append (.cons rfl .nil)
  have len : (us ++ [Value.ref f]).length = D.ps.length := by
    rw [← rv1.length, D.len, List.length_append]
    exact hl
  have bnd := D.b s' (us ++ [.ref f]) I1.kIn ((congrArg List.length (List.append_nil _)).trans len)
  rw [List.append_nil] at bnd
  have run := @FnLam.go (WW.at_ F1) X.prog X.w X.K X.mg X.base k D.a D.fd D.ps np ps.length vfG (D.g F1) X.A X.stack s' H1 ⟨us ++ [.ref f], []⟩ (us ++ [.ref f]) (vs ++ [.ref f]) Q (WE W σ) f (lamF fe (capS ρ)) hr I1.env0 bnd rv1 (fun N qual sg cdv => acts_lam I1 w1 O.L O.new hf hfn hfr hc O.bind (O.run F1) hr2 N qual sg D.a cdv (WE W σ)) sp
  refine wpAny_call (codeAny_mono run fun rs s2 got => ?_)
  match rs, got with
  | .error er, got => exact passAt tk σ pins H1 s' er s2 I1 got
  | .ok (.ret v), got => exact I1.after got
  | .ok .next, got => exact got.elim
  | .ok .brk, got => exact got.elim
  | .ok .cont, got => exact got.elim
theorem pe_vlam1 {e1 : Expr} {f1 : VE} (D : FL X.prog X.w X.K X.mg X.base x k 2 ps.length vfG) (O : LamOk X c P params body scope ps kb fe) (hr : Room k X.A) (hr2 : Room (kb + 2) X.A) (tk : Takes X W) (h1 : PE X e1 (LE X.K W f1)) (hg : Gl X x) (hdb : (x == ("__debug__" : Str)) = false := by decide) (he : starEach [e1, .Lambda params body scope lpos] X.env = (false, eval e1 X.env) :: starEach [.Lambda params body scope lpos] X.env := by rfl) :
    PE X (.Call (.Name x p) [e1, .Lambda params body scope lpos] [] pos) (LE X.K W (vLam1 vfG fe f1)) := by
  refine ⟨fun pins s σ H Q I ⟨F, A, ρ, m, w, g⟩ => ?_⟩
  refine wpAny_Call_Name_kw (ld_glob I hg D.m ?_ hdb)
  refine PySem.W.callWith_K (h₀ := X.base) I.ok.mod.kin D.kp ?_ he (by rfl)
  rw [he]
  show wpAny _ _ (spliced ((false, eval e1 X.env) :: [(false, eval (.Lambda params body scope lpos) X.env)])) _ _ s
  refine Calls.spliced_cons (thn (h1.run pins s σ H _ I ⟨F, A, ρ, m, w, Got.bind (R1 := rS X.K) g⟩) fun u s1 ⟨v, H1, I1, r1, F1, A1, m1, a, n1, w1, ra, g1⟩ => ?_)
  exact wpAny_mono (lam_call (us := [u]) (vs := [v]) (ss := [a]) D O hr hr2 tk I1 w1 (.cons r1 .nil) (.cons ra .nil) rfl g1) (fun zs s2 h => h) fun _ _ h => h
end
/-! ### a def that makes a lambda -/
/-- the code object of the def at f -/
def CodeIs (K : PySem.W.Frag) (f c : Addr) : Prop := ∃ (oc : Value) (od : Option Addr) (fdd : FuncData) (osl : Array (Option Value)), K.lookup f = some ⟨oc, od, .func fdd, osl⟩ ∧ fdd.code = .ref c
section
variable {P : Program} {w : World} {K : PySem.W.Frag} {mg : Str → Option Value} {base : Heap}
theorem okVT {x qual : Str} {st : Stmt} {f c : Addr} {fd : FuncData} {N ps : List Str} {k : Nat} {b : VS} (F : Fun K x qual st f fd) (S : FnScope N ps (defScope st)) (C : CodeIs K f c)
    (hb : ∀ (A : Around) (outer : List Env) (s : Shared) (H : Hp) (E : XK), Room k (A.deeper (envOfC qual (defScope st) s.heap.objs.size f (.ref c))) → PSs (cxOf (L2.CX P w) P w K mg base N qual (defScope st) f (.ref c) A outer s H E) (defBody st) (LS K (fun cls d _ H => E cls d H) b)) : FnOk P w K mg base (L2.CX P w) (k + 1) f fd ps (SpV K ps.length (vDef N.length b)) := by
  obtain ⟨oc, od, kV, doc, pm, an, cdv, ct, osl, rfl, lk, hcd⟩ := F.ex
  obtain ⟨oc2, od2, fdd, osl2, lk2, hc⟩ := C
  have ec : cdv = .ref c := by
    rw [lk] at lk2
    cases lk2
    exact hc
  subst ec
  refine ⟨fun _ _ _ _ h => h.1, fun B up t G ar xs ws R Ex hr e0 hbi rv hsp => ?_⟩
  refine LamX.run_ofS lk hcd S hr e0 hbi rv hsp.1 fun hr' => ⟨_, hb B up t G Ex hr', ?_⟩
  obtain ⟨_, F0, A0, args, m, o, r, out, m', ev, hq⟩ := hsp
  unfold vDef at ev
  refine ⟨F0, A0, _, m, wd_start (N := N) o r, ?_⟩
  split at ev
  · rename_i rr s' eb
    cases ev
    exact ⟨_, _, eb, fun F' A' σ' v H' n w' rv => hq F' A' v H' n w'.os rv⟩
  · rename_i s' eb
    cases ev
    exact ⟨_, _, eb, fun F' A' σ' H' n w' => hq F' A' .non H' n w'.os (show Rp K F' .non .non from .non)⟩
  · rename_i C fs s' eb
    cases ev
    exact ⟨_, _, eb, fun F' A' σ' d ws H' n w' rf hd => hq F' A' d ws H' n w'.os rf hd⟩
  · cases ev
end
end Vs
end
section
/-! VsT: the end of a law whose program holds lambdas. -/
namespace Vs
open PySem PySem.Spec PyProof.Rows L2
theorem walk_ofTab {l : PySem.W.OpenLaw} {n k : Nat} {q : Program} {loose : List Str} {XP : (Str → Option Value) → Heap → Prop} {YP : World → Heap → Prop} {d : DefRec} {K : Params → PySem.W.Frag} {CX : World → CXT} {x : Str} {sp : World → Sp} (cs : List (Addr × Addr))
    (hn : l.most = some n) (hn2 : n ≤ sizeLine) (hdf : d.params.defaults = []) (hr : Room k callerA) (hY : ∀ (w : World) (h : Heap), YP w h → (K w.params).In h)
    (ht : ∀ p ∈ cs, ∃ (x : Str) (e : DefRec), (recsOf q).find? (fun e => e.name == x) = some e ∧ ∀ w : World, PySem.W.tabIn (K w.params) x = some p) (nT : ∀ p ∈ cs, ∀ w : World, (K w.params).lookup p.2 = none)
    (F : ∀ (w : World) (mg : Str → Option Value) (fa : Addr) (h : Heap), (K w.params).In h → h.Ns mainGlobals mg → mg d.name = some (.ref fa) →
      ∃ fd : FuncData, (∀ (s : Shared) (u : Value), BindsTo s fd ⟨[u], []⟩ [(x, u)]) ∧ ∀ base : Heap, (K w.params).In base → base.Ns mainGlobals mg → (∀ p ∈ cs, LamX.TabB base mg p.1 p.2) → FnOk l.prog w (K w.params) mg base (CX w) k fa fd [x] (sp w))
    (hsp : ∀ (w : World) (H : Hp) (a : Addr) (ns : List Int), ns.length ≤ n → (∀ p ∈ cs, H p.2 = some (.tbl #[])) → SqL (K w.params) H a (ns.map V.int) → sp w [.ref a] H (fun v _ => v = .bl true) fun _ _ _ => False)
    (hCX : ∀ (w : World) (H : Hp) (s : Shared) (e : Value) (s' : Shared), CX w [] H s (fun _ _ _ => False) e s' → False) :
    PySem.W.WalkO q loose XP YP l.row.toRowW d [] (fun f vs => PySem.call f vs) := by
  refine Att.attach_callB hn hdf fun w s₀ s₁ mg mb fa o pm cd doc a vs ns G Y ho hd hcd hmg hobj hints hlen hbits hg => ?_
  have KX := hY w _ Y
  obtain ⟨fd, hb, hF⟩ := F w mg fa _ KX G.T.g hmg
  have tabs : ∀ p ∈ cs, PySem.W.CodeHd s₁.heap p.1 p.2 ∧ s₁.heap.get? p.2 = some { cls := .none, data := .fields #[] } := fun p hp => by
    obtain ⟨x, e, h1, h2⟩ := ht p hp
    exact PySem.W.tab_of G.T KX h1 (h2 w)
  exact LamX.law_callTs KX G.T.g G.T.b G.T.builtins G.T.nolimit hg (fun p hp => (tabs p hp).2) (fun p hp => nT p hp w) (fun p hp => (tabs p hp).1) G.T.bmain hobj hints (Nat.le_trans hlen hn2) hr hF hb (fun H hH hS => hsp w H a ns hlen hH hS) fun H e s' => hCX w H s₁ e s'
end Vs
end
section
/-! VsH: the end of a law whose def is run where no repr runs. -/
namespace Vs
open PySem PySem.Spec PyProof.Rows L2
section
variable {P : Program} {w : World} {K : PySem.W.Frag} {mg mb : Str → Option Value} {a : Addr} {t : Shared} {G : Hp}
/-- the abstract heap of the start: at most the script's list -/
structure Beg (a : Addr) (us : List Value) (t : Shared) (G : Hp) : Prop where
  only : Only G
  at_ : ∀ {b : Addr}, G b ≠ none → b = a
  lst : t.heap.get? a = some { cls := .type "list", data := .seq us.toArray }
theorem Beg.none_of {us : List Value} (B : Beg a us t G) {b : Addr} (h : b ≠ a) : G b = none := Classical.byContradiction fun z => h (B.at_ z)
theorem Beg.dict {us : List Value} (B : Beg a us t G) {b : Addr} {o : Obj} {es : Array DictEntry} {ep : Nat} (e : t.heap.get? b = some o) (d : o.data = .dict es ep) : G b = none := B.none_of fun z => by
  subst z
  rw [B.lst] at e
  cases e
  exact nomatch (show Data.seq us.toArray _ = Data.dict es ep from d)
end
end Vs
end
section
namespace Vw
open PySem PySem.Spec PyProof.Rows L2 Own Vs
def top (i : Nat) : Stmt := PySem.Challenge.pw_outermost_k27_wishes_known.main.body.getD i (.Pass ⟨0, 0, 0, 0⟩)
abbrev s_wall : Stmt := top 0
abbrev s_InvalidRow_init : Stmt := inClass (top 3) 0
abbrev s_InvalidStack_init : Stmt := inClass (top 4) 0
abbrev s_InvalidText_init : Stmt := inClass (top 5) 0
abbrev s_InvalidWish_init : Stmt := inClass (top 6) 0
abbrev s_NoRow_init : Stmt := inClass (top 7) 0
abbrev s_is_integer : Stmt := top 9
abbrev s_is_sequence : Stmt := top 10
abbrev s_Row_read : Stmt := inClass (top 17) 0
abbrev s_Row_words : Stmt := inClass (top 17) 1
abbrev s_Row_eq : Stmt := inClass (top 17) 2
abbrev s_Row_str : Stmt := inClass (top 17) 3
abbrev s_Keep_init : Stmt := inClass (top 18) 0
abbrev s_Keep_words : Stmt := inClass (top 18) 1
abbrev s_Tries_init : Stmt := inClass (top 19) 0
abbrev s_Tries_words : Stmt := inClass (top 19) 1
abbrev s_Limit_init : Stmt := inClass (top 20) 0
abbrev s_Limit_words : Stmt := inClass (top 20) 1
abbrev s_Leave_words : Stmt := inClass (top 21) 0
abbrev s_Soft_init : Stmt := inClass (top 22) 0
abbrev s_Soft_words : Stmt := inClass (top 22) 1
abbrev s_Count_words : Stmt := inClass (top 23) 0
abbrev s_Lend_words : Stmt := inClass (top 24) 0
abbrev s_is_one_of : Stmt := top 25
abbrev s_check_argument : Stmt := top 26
abbrev s_every_row : Stmt := top 27
abbrev s_Call_init : Stmt := inClass (top 32) 0
abbrev s_Call_ask : Stmt := inClass (top 32) 1
abbrev s_Call_ask_keeper : Stmt := inClass (top 32) 2
abbrev s_Call_ask_repeatedly : Stmt := inClass (top 32) 3
abbrev s_Call_ask_limited : Stmt := inClass (top 32) 4
abbrev s_Call_ask_softly : Stmt := inClass (top 32) 5
abbrev s_Call_make_try : Stmt := inClass (top 32) 6
abbrev s_may_store : Stmt := top 33
abbrev s_ticked : Stmt := top 34
abbrev s_aged : Stmt := top 35
abbrev s_calls_from : Stmt := top 36
abbrev s_calls_of : Stmt := top 37
abbrev s_event_of : Stmt := top 38
abbrev s_breaks_calm : Stmt := top 40
abbrev s_breaks_fresh : Stmt := top 41
abbrev s_breaks_kept : Stmt := top 42
abbrev s_breaks_leave : Stmt := top 43
abbrev s_breaks_once : Stmt := top 44
abbrev s_breaks_spare : Stmt := top 45
abbrev s_breaks_tries : Stmt := top 46
abbrev s_breaks : Stmt := top 50
abbrev s_is_wish : Stmt := top 51
abbrev s_check_wish : Stmt := top 52
abbrev s_begun : Stmt := top 54
abbrev s_reached : Stmt := top 56
abbrev s_trail : Stmt := top 57
abbrev s_kept_wishes : Stmt := top 59
abbrev s_breach : Stmt := top 60
abbrev s_standings : Stmt := top 61
abbrev s_most_tries : Stmt := top 62
abbrev s_kept_of : Stmt := top 63
abbrev s_possible_calls : Stmt := top 64
abbrev s_reached_standings : Stmt := top 65
abbrev s_events_from : Stmt := top 66
abbrev s_Stack_init : Stmt := inClass (top 68) 0
abbrev s_Stack_read : Stmt := inClass (top 68) 1
abbrev s_Stack_without : Stmt := inClass (top 68) 2
abbrev s_Stack_swapped : Stmt := inClass (top 68) 3
abbrev s_Stack_put : Stmt := inClass (top 68) 4
abbrev s_Stack_add : Stmt := inClass (top 68) 5
abbrev s_Stack_len : Stmt := inClass (top 68) 6
abbrev s_Stack_getitem : Stmt := inClass (top 68) 7
abbrev s_Stack_iter : Stmt := inClass (top 68) 8
abbrev s_Stack_eq : Stmt := inClass (top 68) 9
abbrev s_Stack_str : Stmt := inClass (top 68) 10
abbrev s_rows_of : Stmt := top 69
abbrev s_rows_in : Stmt := top 70
abbrev s_check_index : Stmt := top 71
abbrev s_law_deal : Stmt := top 73
abbrev s_law_draw : Stmt := top 74
abbrev s_law_pick : Stmt := top 75
abbrev s_law_mixed : Stmt := top 76
abbrev s_law_cases : Stmt := top 77
abbrev s_law : Stmt := top 78
section
variable [WW]
variable {P : Program} {w : World} {K : PySem.W.Frag} {mg : Str → Option Value} {base : Heap}
structure CS where
  WrapError : Addr
  InvalidRow : Addr
  InvalidStack : Addr
  InvalidText : Addr
  InvalidWish : Addr
  NoRow : Addr
  Row : Addr
  Keep : Addr
  Tries : Addr
  Limit : Addr
  Leave : Addr
  Soft : Addr
  Count : Addr
  Lend : Addr
  Call : Addr
  Stack : Addr
  fn_breaks_calm : Addr
  fn_breaks_fresh : Addr
  fn_breaks_kept : Addr
  fn_breaks_leave : Addr
  fn_breaks_once : Addr
  fn_breaks_spare : Addr
  fn_breaks_tries : Addr
def ctB (c : CS) : Addr → Option Bool := fun C => if C ∈ [c.Row, c.Keep, c.Tries, c.Limit, c.Leave, c.Soft, c.Count, c.Lend, c.Call, c.Stack] then some false else none
def ct_Row (c : CS) : Addr → Option Bool := fun C => if C ∈ [c.Row, c.Keep, c.Tries, c.Limit, c.Leave, c.Soft, c.Count, c.Lend] then some true else if C ∈ [c.Call, c.Stack] then some false else none
def ct_Keep (c : CS) : Addr → Option Bool := fun C => if C ∈ [c.Keep] then some true else if C ∈ [c.Row, c.Tries, c.Limit, c.Leave, c.Soft, c.Count, c.Lend, c.Call, c.Stack] then some false else none
def ct_Tries (c : CS) : Addr → Option Bool := fun C => if C ∈ [c.Tries] then some true else if C ∈ [c.Row, c.Keep, c.Limit, c.Leave, c.Soft, c.Count, c.Lend, c.Call, c.Stack] then some false else none
def ct_Limit (c : CS) : Addr → Option Bool := fun C => if C ∈ [c.Limit] then some true else if C ∈ [c.Row, c.Keep, c.Tries, c.Leave, c.Soft, c.Count, c.Lend, c.Call, c.Stack] then some false else none
def ct_Leave (c : CS) : Addr → Option Bool := fun C => if C ∈ [c.Leave] then some true else if C ∈ [c.Row, c.Keep, c.Tries, c.Limit, c.Soft, c.Count, c.Lend, c.Call, c.Stack] then some false else none
def ct_Soft (c : CS) : Addr → Option Bool := fun C => if C ∈ [c.Soft] then some true else if C ∈ [c.Row, c.Keep, c.Tries, c.Limit, c.Leave, c.Count, c.Lend, c.Call, c.Stack] then some false else none
def ct_Count (c : CS) : Addr → Option Bool := fun C => if C ∈ [c.Count] then some true else if C ∈ [c.Row, c.Keep, c.Tries, c.Limit, c.Leave, c.Soft, c.Lend, c.Call, c.Stack] then some false else none
def ct_Lend (c : CS) : Addr → Option Bool := fun C => if C ∈ [c.Lend] then some true else if C ∈ [c.Row, c.Keep, c.Tries, c.Limit, c.Leave, c.Soft, c.Count, c.Call, c.Stack] then some false else none
def ct_Call (c : CS) : Addr → Option Bool := fun C => if C ∈ [c.Call] then some true else if C ∈ [c.Row, c.Keep, c.Tries, c.Limit, c.Leave, c.Soft, c.Count, c.Lend, c.Stack] then some false else none
def ct_Stack (c : CS) : Addr → Option Bool := fun C => if C ∈ [c.Stack] then some true else if C ∈ [c.Row, c.Keep, c.Tries, c.Limit, c.Leave, c.Soft, c.Count, c.Lend, c.Call] then some false else none
def mt_WrapError (c : CS) : Addr → Option Bool := fun C => if C ∈ [c.WrapError, c.InvalidRow, c.InvalidStack, c.InvalidText, c.InvalidWish] then some true else if C ∈ [c.NoRow] then some false else none
def mt_InvalidRow (c : CS) : Addr → Option Bool := fun C => if C ∈ [c.InvalidRow] then some true else if C ∈ [c.WrapError, c.InvalidStack, c.InvalidText, c.InvalidWish, c.NoRow] then some false else none
def mt_InvalidStack (c : CS) : Addr → Option Bool := fun C => if C ∈ [c.InvalidStack] then some true else if C ∈ [c.WrapError, c.InvalidRow, c.InvalidText, c.InvalidWish, c.NoRow] then some false else none
def mt_InvalidText (c : CS) : Addr → Option Bool := fun C => if C ∈ [c.InvalidText] then some true else if C ∈ [c.WrapError, c.InvalidRow, c.InvalidStack, c.InvalidWish, c.NoRow] then some false else none
def mt_InvalidWish (c : CS) : Addr → Option Bool := fun C => if C ∈ [c.InvalidWish] then some true else if C ∈ [c.WrapError, c.InvalidRow, c.InvalidStack, c.InvalidText, c.NoRow] then some false else none
def mt_NoRow (c : CS) : Addr → Option Bool := fun C => if C ∈ [c.NoRow] then some true else if C ∈ [c.WrapError, c.InvalidRow, c.InvalidStack, c.InvalidText, c.InvalidWish] then some false else none
def okq_Row (c : CS) : Addr → Ty → Bool := fun C y => match y with | .cls D => decide (C ∈ [c.Keep, c.Tries, c.Limit, c.Leave, c.Soft, c.Count, c.Lend]) && decide (D ∈ [c.Keep, c.Tries, c.Limit, c.Leave, c.Soft, c.Count, c.Lend]) | _ => false
def okq_Keep (c : CS) : Addr → Ty → Bool := fun C y => match y with | .cls D => decide (C ∈ [c.Keep]) && decide (D ∈ [c.Keep]) | _ => false
def okq_Tries (c : CS) : Addr → Ty → Bool := fun C y => match y with | .cls D => decide (C ∈ [c.Tries]) && decide (D ∈ [c.Tries]) | _ => false
def okq_Limit (c : CS) : Addr → Ty → Bool := fun C y => match y with | .cls D => decide (C ∈ [c.Limit]) && decide (D ∈ [c.Limit]) | _ => false
def okq_Leave (c : CS) : Addr → Ty → Bool := fun C y => match y with | .cls D => decide (C ∈ [c.Leave]) && decide (D ∈ [c.Leave]) | _ => false
def okq_Soft (c : CS) : Addr → Ty → Bool := fun C y => match y with | .cls D => decide (C ∈ [c.Soft]) && decide (D ∈ [c.Soft]) | _ => false
def okq_Count (c : CS) : Addr → Ty → Bool := fun C y => match y with | .cls D => decide (C ∈ [c.Count]) && decide (D ∈ [c.Count]) | _ => false
def okq_Lend (c : CS) : Addr → Ty → Bool := fun C y => match y with | .cls D => decide (C ∈ [c.Lend]) && decide (D ∈ [c.Lend]) | _ => false
def okq_Call (c : CS) : Addr → Ty → Bool := fun C y => match y with | .cls D => decide (C ∈ [c.Call]) && decide (D ∈ [c.Call]) | _ => false
def okq_Stack (c : CS) : Addr → Ty → Bool := fun C y => match y with | .cls D => decide (C ∈ [c.Stack]) && decide (D ∈ [c.Stack]) | _ => false
def ok_Row (c : CS) : Addr → Bool := fun C => decide (C ∈ [c.Row, c.Keep, c.Tries, c.Limit, c.Leave, c.Soft, c.Count, c.Lend])
def ok_Keep (c : CS) : Addr → Bool := fun C => decide (C ∈ [c.Keep])
def ok_Tries (c : CS) : Addr → Bool := fun C => decide (C ∈ [c.Tries])
def ok_Limit (c : CS) : Addr → Bool := fun C => decide (C ∈ [c.Limit])
def ok_Leave (c : CS) : Addr → Bool := fun C => decide (C ∈ [c.Leave])
def ok_Soft (c : CS) : Addr → Bool := fun C => decide (C ∈ [c.Soft])
def ok_Count (c : CS) : Addr → Bool := fun C => decide (C ∈ [c.Count])
def ok_Lend (c : CS) : Addr → Bool := fun C => decide (C ∈ [c.Lend])
def ok_Call (c : CS) : Addr → Bool := fun C => decide (C ∈ [c.Call])
def ok_Stack (c : CS) : Addr → Bool := fun C => decide (C ∈ [c.Stack])
def okA (c : CS) : Addr → Bool := fun C => decide (C ∈ [c.Row, c.Keep, c.Tries, c.Limit, c.Leave, c.Soft, c.Count, c.Lend, c.Call, c.Stack])
def okR (c : CS) : Addr → Bool := fun C => decide (C ∈ [c.Row, c.Keep, c.Tries, c.Limit, c.Leave, c.Soft, c.Count, c.Lend])
def tabD_FAULTS_OF (c : CS) : Str → Option T := fun z => if z = "fault" then some (.tup [(.str "fault"), (.str "late")]) else if z = "all" then some (.tup [(.str "fault"), (.str "late"), (.str "denied")]) else none
def tabI_FAULTS_OF : Str → Option Bool := fun z => if z = "fault" then some true else if z = "all" then some true else if z = "calm" then some false else if z = "fresh" then some false else if z = "kept" then some false else if z = "leave" then some false else if z = "once" then some false else if z = "spare" then some false else if z = "tries" then some false else if z = "bound 1" then some false else if z = "bound 2" then some false else if z = "bound 3" then some false else if z = "bound 4" then some false else if z = "bound 5" then some false else if z = "bound 6" then some false else none
def tabD_BREAKS (c : CS) : Str → Option T := fun z => if z = "calm" then some (.cst (.ref c.fn_breaks_calm)) else if z = "fresh" then some (.cst (.ref c.fn_breaks_fresh)) else if z = "kept" then some (.cst (.ref c.fn_breaks_kept)) else if z = "leave" then some (.cst (.ref c.fn_breaks_leave)) else if z = "once" then some (.cst (.ref c.fn_breaks_once)) else if z = "spare" then some (.cst (.ref c.fn_breaks_spare)) else if z = "tries" then some (.cst (.ref c.fn_breaks_tries)) else none
def tabI_BREAKS : Str → Option Bool := fun z => if z = "calm" then some true else if z = "fresh" then some true else if z = "kept" then some true else if z = "leave" then some true else if z = "once" then some true else if z = "spare" then some true else if z = "tries" then some true else if z = "fault" then some false else if z = "all" then some false else if z = "bound 1" then some false else if z = "bound 2" then some false else if z = "bound 3" then some false else if z = "bound 4" then some false else if z = "bound 5" then some false else if z = "bound 6" then some false else none
def tabD_BOUNDS (c : CS) : Str → Option T := fun z => if z = "bound 1" then some (.int 1) else if z = "bound 2" then some (.int 2) else if z = "bound 3" then some (.int 3) else if z = "bound 4" then some (.int 4) else if z = "bound 5" then some (.int 5) else if z = "bound 6" then some (.int 6) else none
def tabI_BOUNDS : Str → Option Bool := fun z => if z = "bound 1" then some true else if z = "bound 2" then some true else if z = "bound 3" then some true else if z = "bound 4" then some true else if z = "bound 5" then some true else if z = "bound 6" then some true else if z = "fault" then some false else if z = "all" then some false else if z = "calm" then some false else if z = "fresh" then some false else if z = "kept" then some false else if z = "leave" then some false else if z = "once" then some false else if z = "spare" then some false else if z = "tries" then some false else none
variable {c : CS}
structure Gp0 where
  Call_ask : VF
  Call_ask_keeper : VF
  Call_ask_repeatedly : VF
  Call_ask_limited : VF
  Call_ask_softly : VF
abbrev n_deal : List Str := ["_law_script", "_law_base", "_law_cells", "_law_stirred", "_law_at", "_law_cell"]
theorem sc_deal : FnScope n_deal ["_law_script", "_law_base"] (defScope s_law_deal) := ⟨rfl, rfl, rfl, by decide +kernel, rfl, by decide +kernel, by decide +kernel⟩
def b_deal (c : CS) : VS := (vSeq (vSet 2 (vVal (vComp [5] (vItems (vVal (vSliceL (vVar 0) (vPart (vVar 1)) (vPart (vC (.int 64)))))) (vgName 5) vYes (vB gAbs (vCons (vB gInt1 (vCons (vVar 5) vNil)) vNil)))))
    (vSeq (vSet 3 (vBin gAdd (vC (.int 51749)) (vBin dMul (vC (.int 13)) (vVar 1))))
    (vSeq (vFor (vEnum (vCons (vVar 2) vNil)) (vgTup [(vgName 4), (vgName 5)]) (vSet 3 (vBin dMod (vB gInt1 (vCons (vBin gAdd (vBin dMul (vBin gAdd (vBin gAdd (vVar 3) (vVar 4)) (vC (.int 2))) (vC (.int 48271))) (vBin dMod (vB gInt1 (vCons (vVar 5) vNil)) (vC (.int 2147483587)))) vNil)) (vC (.int 2147483647)))))
    (vRet (vDisp [("great", (vOwn (vRev (vVal (vComp [5] (vItems (vVar 2)) (vgName 5) (vTest (vBin dGe (vVar 5) (vBin dPow (vC (.int 10)) (vC (.int 18))))) (vVar 5)))))), ("stirred", (vVar 3))])))))
def f_deal (c : CS) : VF := vDef 6 (b_deal c)
theorem okv_deal {f : Addr} {fd : FuncData} (F : Fun K "_law_deal" "_law_deal" s_law_deal f fd) (B : Bn mg) : FnOk P w K mg base (L2.CX P w) 1 f fd ["_law_script", "_law_base"] (SpV K 2 (f_deal c)) :=
  okV F sc_deal fun cdv A outer s H E hr => (pss_vcons (ps_vsetLc (own := [("_law_cell", 5)]) (by decide) rfl sc_deal.nd (i := 2) rfl rfl (sw_true rfl rfl rfl (by decide +kernel)) (pi_vseq (pe_vval (pe_vsliceL (pe_vvar 0) (po_vsome (pe_vvar 1)) (po_vsome pe_vint)))) (blkOk_by (N := n_deal) (sc := defScope s_law_deal) (by decide +kernel)) (fun _ _ _ _ _ => (pg_vname (i := 5) sc_deal.nd rfl (Or.inl rfl))) (fun _ _ _ _ _ => pts_vnil) (fun _ _ _ _ _ => (pe_vcallB cv_abs call_abs (by rfl) B.abs_ (by decide +kernel) (pa_vcons (pe_vcallTy cv_int call_int1 (by rfl) B.int_ (by decide +kernel) (pa_vcons (pe_vvar 5) pa_vnil)) pa_vnil))))
    (pss_vcons (ps_vset (i := 3) sc_deal.nd rfl (Or.inl rfl) (pe_vadd pe_vint (pe_vmul pe_vint (pe_vvar 1))))
    (pss_vcons (ps_vfor (passes_of rfl) rfl (pi_venum (by rfl) B.enumerate_ (pa_vcons (pe_vvar 2) pa_vnil)) (pg_vtup rfl (pgs_vcons (pg_vname (i := 4) sc_deal.nd rfl (Or.inl rfl)) (pgs_vcons (pg_vname (i := 5) sc_deal.nd rfl (Or.inl rfl)) pgs_vnil))) (pss_vone (ps_vset (i := 3) sc_deal.nd rfl (Or.inl rfl) (pe_vmod (pe_vcallTy cv_int call_int1 (by rfl) B.int_ (by decide +kernel) (pa_vcons (pe_vadd (pe_vmul (pe_vadd (pe_vadd (pe_vvar 3) (pe_vvar 4)) pe_vint) pe_vint) (pe_vmod (pe_vcallTy cv_int call_int1 (by rfl) B.int_ (by decide +kernel) (pa_vcons (pe_vvar 5) pa_vnil)) pe_vint)) pa_vnil)) pe_vint))))
    (pss_vone (ps_vret (pe_vdisp (l := [("great", (vOwn (vRev (vVal (vComp [5] (vItems (vVar 2)) (vgName 5) (vTest (vBin dGe (vVar 5) (vBin dPow (vC (.int 10)) (vC (.int 18))))) (vVar 5)))))), ("stirred", (vVar 3))]) (pps_cons pe_str (pe_vown (pe_vrev (pe_vval (pe_vcomp (own := [("_law_cell", 5)]) (by decide) rfl sc_deal.nd (pi_vseq (pe_vvar 2)) (blkOk_by (N := n_deal) (sc := defScope s_law_deal) (by decide +kernel)) (fun _ _ _ _ _ => (pg_vname (i := 5) sc_deal.nd rfl (Or.inl rfl))) (fun _ _ _ _ _ => (pts_one (pt_vge (pe_vvar 5) (pe_vpow pe_vint pe_vint)))) (fun _ _ _ _ _ => (pe_vvar 5)))))) (pps_cons pe_str (pe_vvar 3) pps_nil)) (by rfl) (by rfl) (fun z => by cases z) (by decide)))))))
abbrev n_draw : List Str := ["_law_deal_here", "_law_wide", "_law_great", "_law_cell"]
theorem sc_draw : FnScope n_draw ["_law_deal_here", "_law_wide"] (defScope s_law_draw) := ⟨rfl, rfl, rfl, by decide +kernel, rfl, by decide +kernel, by decide +kernel⟩
def b_draw (c : CS) : VS := (vSeq (vSet 2 (vBin gRd (vVar 0) (vC (.str "great"))))
    (vSeq (vWh (vAnd (vTest (vBin dNe (vVar 2) (vVal (vLst vNil)))) (vTest (vBin dEq (vBin gIx (vVar 2) (vC (.int (-1)))) (vC (.int 0))))) (vDrop (vMet0 gPop (vVar 2))) 1000)
    (vSeq (vIf (vTest (vBin dNe (vVar 2) (vVal (vLst vNil)))) (vSeq (vSet 3 (vMet0 gPop (vVar 2)))
    (vSeq (vDrop (vMet gAppend (vVar 2) (vCons (vBin dDiv (vVar 3) (vVar 1)) vNil)))
    (vRet (vBin dMod (vB gInt1 (vCons (vVar 3) vNil)) (vVar 1))))) vNext)
    (vSeq (vPut (vVar 0) (vC (.str "stirred")) (vBin dMod (vB gInt1 (vCons (vBin gAdd (vBin dMul (vBin gRd (vVar 0) (vC (.str "stirred"))) (vC (.int 48271))) (vC (.int 19))) vNil)) (vC (.int 2147483647))))
    (vRet (vBin dMod (vB gInt1 (vCons (vBin dDiv (vBin gRd (vVar 0) (vC (.str "stirred"))) (vC (.int 16))) vNil)) (vVar 1)))))))
def f_draw (c : CS) : VF := vDef 4 (b_draw c)
theorem okv_draw {f : Addr} {fd : FuncData} (F : Fun K "_law_draw" "_law_draw" s_law_draw f fd) (B : Bn mg) : FnOk P w K mg base (L2.CX P w) 1 f fd ["_law_deal_here", "_law_wide"] (SpV K 2 (f_draw c)) :=
  okV F sc_draw fun cdv A outer s H E hr => (pss_vcons (ps_vset (i := 2) sc_draw.nd rfl (Or.inl rfl) (pe_vrd (hu1 hr.units) (pe_vvar 0) pe_vstr (fun _ _ => rfl)))
    (pss_vcons (ps_vwhile 1000 (passes_of rfl) (PW.pt (pw_vand (pt_vne hr.units (pe_vvar 2) (pe_vval (pe_vlst pa_vnil))) (pw_vand1 (pt_veq hr.units (pe_vix (fun _ _ => rfl) (pe_vvar 2) pe_vneg) pe_vint)))) (pss_vone (ps_vexpr (pe_vpop (pe_vvar 2)))))
    (pss_vcons (ps_vif (pt_vne hr.units (pe_vvar 2) (pe_vval (pe_vlst pa_vnil))) (pss_vcons (ps_vset (i := 3) sc_draw.nd rfl (Or.inl rfl) (pe_vpop (pe_vvar 2)))
    (pss_vcons (ps_vexpr (pe_vappend (pe_vvar 2) (pa_vcons (pe_vdiv (pe_vvar 3) (pe_vvar 1)) pa_vnil)))
    (pss_vone (ps_vret (pe_vmod (pe_vcallTy cv_int call_int1 (by rfl) B.int_ (by decide +kernel) (pa_vcons (pe_vvar 3) pa_vnil)) (pe_vvar 1)))))) pss_vnil)
    (pss_vcons (ps_vput (hu1 hr.units) (pe_vvar 0) pe_vstr (pe_vmod (pe_vcallTy cv_int call_int1 (by rfl) B.int_ (by decide +kernel) (pa_vcons (pe_vadd (pe_vmul (pe_vrd (hu1 hr.units) (pe_vvar 0) pe_vstr (fun _ _ => rfl)) pe_vint) pe_vint) pa_vnil)) pe_vint))
    (pss_vone (ps_vret (pe_vmod (pe_vcallTy cv_int call_int1 (by rfl) B.int_ (by decide +kernel) (pa_vcons (pe_vdiv (pe_vrd (hu1 hr.units) (pe_vvar 0) pe_vstr (fun _ _ => rfl)) pe_vint) pa_vnil)) (pe_vvar 1))))))))
abbrev n_mixed : List Str := ["_law_deal_here", "_law_some", "_law_left", "_law_found"]
theorem sc_mixed : FnScope n_mixed ["_law_deal_here", "_law_some"] (defScope s_law_mixed) := ⟨rfl, rfl, rfl, by decide +kernel, rfl, by decide +kernel, by decide +kernel⟩
def b_mixed (c : CS) : VS := (vSeq (vFrz 3 (vFrz 2 (vPar 2 3 (vCons (vOwn (vBN gListOf (vCons (vVar 1) vNil))) (vCons (vOwn (vLst vNil)) vNil)))))
    (vSeq (vWh (vTest (vBin dNe (vVar 2) (vVal (vLst vNil)))) (vDrop (vMet gAppend (vVar 3) (vCons (vMet gPopAt (vVar 2) (vCons (vCall (f_draw c) (vCons (vVar 0) (vCons (vB gLen (vCons (vVar 2) vNil)) vNil))) vNil)) vNil))) 1000)
    (vFrz 3 (vRet (vVar 3)))))
def f_mixed (c : CS) : VF := vDef 4 (b_mixed c)
theorem okv_mixed {f : Addr} {fd : FuncData} (F : Fun K "_law_mixed" "_law_mixed" s_law_mixed f fd) (B : Bn mg) (D_draw : DV P w K mg base "_law_draw" 1 2 (f_draw c)) : FnOk P w K mg base (L2.CX P w) 2 f fd ["_law_deal_here", "_law_some"] (SpV K 2 (f_mixed c)) :=
  okV F sc_mixed fun cdv A outer s H E hr => (pss_vcons (ps_frz 3 (ps_frz 2 (ps_vpar (i := 2) (j := 3) rfl sc_mixed.nd rfl rfl (by decide) rfl rfl (pa_vcons (pe_vown (pe_vcallTyN cv_list call_list_of (by rfl) B.list_ (by decide +kernel) (pa_vcons (pe_vvar 1) pa_vnil))) (pa_vcons (pe_vown (pe_vlst pa_vnil)) pa_vnil)) (by rfl))))
    (pss_vcons (ps_vwhile 1000 (passes_of rfl) (pt_vne hr.units (pe_vvar 2) (pe_vval (pe_vlst pa_vnil))) (pss_vone (ps_vexpr (pe_vappend (pe_vvar 3) (pa_vcons (pe_vpopAt (pe_vvar 2) (pa_vcons (pe_vcall D_draw.g (hr.mono (by decide)) (by rfl) D_draw.m D_draw.kp D_draw.b (takes_of rfl rfl rfl rfl) (pa_vcons (pe_vvar 0) (pa_vcons (pe_vcallB cv_len call_len1 (by rfl) B.len_ (by decide +kernel) (pa_vcons (pe_vvar 2) pa_vnil)) pa_vnil)) (vcons_len (vcons_len vnil_len))) pa_vnil)) pa_vnil)))))
    (pss_vone (ps_frz 3 (ps_vret (pe_vvar 3))))))
abbrev n_cases : List Str := ["_law_every", "_law_found", "_law_plain", "_law_kept"]
theorem sc_cases : FnScope n_cases [] (defScope s_law_cases) := ⟨rfl, rfl, rfl, by decide +kernel, rfl, by decide +kernel, by decide +kernel⟩
def b_cases (c : CS) : VS := (vSeq (vSet 0 (vVal (vLst (vCons (vC (.str "calm")) (vCons (vC (.str "fresh")) (vCons (vC (.str "kept")) (vCons (vC (.str "leave")) (vCons (vC (.str "once")) (vCons (vC (.str "spare")) (vCons (vC (.str "tries")) vNil))))))))))
    (vSeq (vSet 1 (vOwn (vLst (vCons (vTup (vCons (vVal (vLst vNil)) (vCons (vVal (vLst (vCons (vC (.str "fresh")) (vCons (vC (.str "kept")) (vCons (vC (.str "once")) (vCons (vC (.str "spare")) (vCons (vC (.str "tries")) vNil))))))) (vCons (vC (.int 1)) (vCons (vC (.int 1)) (vCons (vC (.str "leave")) (vCons (vC (.int 1)) vNil))))))) vNil))))
    (vSeq (vDrop (vMet gAppend (vVar 1) (vCons (vTup (vCons (vVal (vLst (vCons (vC (.str "leave")) (vCons (vC (.str "soft all")) vNil)))) (vCons (vVar 0) (vCons (vC (.int 1)) (vCons (vC (.int 1)) (vCons (vC (.str "bound 1")) (vCons (vC (.int 0)) vNil))))))) vNil)))
    (vSeq (vDrop (vMet gAppend (vVar 1) (vCons (vTup (vCons (vVal (vLst (vCons (vC (.str "soft all")) (vCons (vC (.str "leave")) vNil)))) (vCons (vVar 0) (vCons (vC (.int 1)) (vCons (vC (.int 1)) (vCons (vC (.str "calm")) (vCons (vC (.int 0)) vNil))))))) vNil)))
    (vSeq (vDrop (vMet gAppend (vVar 1) (vCons (vTup (vCons (vVal (vLst (vCons (vC (.str "keep good ever")) vNil))) (vCons (vVal (vLst (vCons (vC (.str "kept")) (vCons (vC (.str "once")) (vCons (vC (.str "spare")) (vCons (vC (.str "tries")) vNil)))))) (vCons (vC (.int 1)) (vCons (vC (.int 3)) (vCons (vC (.str "fresh")) (vCons (vC (.int 3)) vNil))))))) vNil)))
    (vSeq (vDrop (vMet gAppend (vVar 1) (vCons (vTup (vCons (vVal (vLst (vCons (vC (.str "keep good 0")) vNil))) (vCons (vVal (vLst (vCons (vC (.str "fresh")) (vCons (vC (.str "kept")) (vCons (vC (.str "once")) (vCons (vC (.str "spare")) (vCons (vC (.str "tries")) vNil))))))) (vCons (vC (.int 1)) (vCons (vC (.int 2)) (vCons (vC (.str "calm")) (vCons (vC (.int 1)) vNil))))))) vNil)))
    (vSeq (vDrop (vMet gAppend (vVar 1) (vCons (vTup (vCons (vVal (vLst (vCons (vC (.str "keep all ever")) vNil))) (vCons (vVal (vLst (vCons (vC (.str "once")) (vCons (vC (.str "spare")) (vCons (vC (.str "tries")) vNil))))) (vCons (vC (.int 1)) (vCons (vC (.int 5)) (vCons (vC (.str "kept")) (vCons (vC (.int 2)) vNil))))))) vNil)))
    (vSeq (vDrop (vMet gAppend (vVar 1) (vCons (vTup (vCons (vVal (vLst (vCons (vC (.str "keep good ever")) (vCons (vC (.str "leave")) vNil)))) (vCons (vVal (vLst (vCons (vC (.str "kept")) (vCons (vC (.str "once")) (vCons (vC (.str "spare")) (vCons (vC (.str "tries")) vNil)))))) (vCons (vC (.int 1)) (vCons (vC (.int 3)) (vCons (vC (.str "leave")) (vCons (vC (.int 2)) vNil))))))) vNil)))
    (vSeq (vDrop (vMet gAppend (vVar 1) (vCons (vTup (vCons (vVal (vLst (vCons (vC (.str "leave")) (vCons (vC (.str "keep good 1")) vNil)))) (vCons (vVal (vLst (vCons (vC (.str "kept")) (vCons (vC (.str "leave")) (vCons (vC (.str "once")) (vCons (vC (.str "spare")) (vCons (vC (.str "tries")) vNil))))))) (vCons (vC (.int 1)) (vCons (vC (.int 3)) (vCons (vC (.str "fresh")) (vCons (vC (.int 3)) vNil))))))) vNil)))
    (vSeq (vDrop (vMet gAppend (vVar 1) (vCons (vTup (vCons (vVal (vLst (vCons (vC (.str "keep good ever")) (vCons (vC (.str "soft fault")) vNil)))) (vCons (vVal (vLst (vCons (vC (.str "calm")) (vCons (vC (.str "kept")) (vCons (vC (.str "once")) (vCons (vC (.str "tries")) vNil)))))) (vCons (vC (.int 1)) (vCons (vC (.int 5)) (vCons (vC (.str "spare")) (vCons (vC (.int 1)) vNil))))))) vNil)))
    (vSeq (vDrop (vMet gAppend (vVar 1) (vCons (vTup (vCons (vVal (vLst (vCons (vC (.str "count")) (vCons (vC (.str "tries 3 fault")) vNil)))) (vCons (vVal (vLst (vCons (vC (.str "fresh")) (vCons (vC (.str "kept")) (vCons (vC (.str "once")) (vCons (vC (.str "spare")) vNil)))))) (vCons (vC (.int 3)) (vCons (vC (.int 1)) (vCons (vC (.str "tries")) (vCons (vC (.int 1)) vNil))))))) vNil)))
    (vSeq (vDrop (vMet gAppend (vVar 1) (vCons (vTup (vCons (vVal (vLst (vCons (vC (.str "tries 3 fault")) (vCons (vC (.str "count")) vNil)))) (vCons (vVal (vLst (vCons (vC (.str "fresh")) (vCons (vC (.str "kept")) (vCons (vC (.str "spare")) (vCons (vC (.str "tries")) vNil)))))) (vCons (vC (.int 3)) (vCons (vC (.int 1)) (vCons (vC (.str "once")) (vCons (vC (.int 1)) vNil))))))) vNil)))
    (vSeq (vDrop (vMet gAppend (vVar 1) (vCons (vTup (vCons (vVal (vLst (vCons (vC (.str "leave")) (vCons (vC (.str "count")) vNil)))) (vCons (vVal (vLst (vCons (vC (.str "fresh")) (vCons (vC (.str "kept")) (vCons (vC (.str "leave")) (vCons (vC (.str "spare")) (vCons (vC (.str "tries")) vNil))))))) (vCons (vC (.int 1)) (vCons (vC (.int 1)) (vCons (vC (.str "once")) (vCons (vC (.int 1)) vNil))))))) vNil)))
    (vSeq (vDrop (vMet gAppend (vVar 1) (vCons (vTup (vCons (vVal (vLst (vCons (vC (.str "limit 2")) (vCons (vC (.str "tries 3 all")) (vCons (vC (.str "count")) vNil))))) (vCons (vVal (vLst (vCons (vC (.str "fresh")) (vCons (vC (.str "kept")) (vCons (vC (.str "spare")) vNil))))) (vCons (vC (.int 2)) (vCons (vC (.int 1)) (vCons (vC (.str "bound 1")) (vCons (vC (.int 1)) vNil))))))) vNil)))
    (vSeq (vDrop (vMet gAppend (vVar 1) (vCons (vTup (vCons (vVal (vLst (vCons (vC (.str "tries 2 all")) (vCons (vC (.str "tries 3 all")) vNil)))) (vCons (vVal (vLst (vCons (vC (.str "fresh")) (vCons (vC (.str "kept")) (vCons (vC (.str "once")) (vCons (vC (.str "spare")) (vCons (vC (.str "tries")) vNil))))))) (vCons (vC (.int 6)) (vCons (vC (.int 1)) (vCons (vC (.str "bound 5")) (vCons (vC (.int 1)) vNil))))))) vNil)))
    (vSeq (vSet 2 (vVal (vLst (vCons (vC (.str "fresh")) (vCons (vC (.str "kept")) (vCons (vC (.str "once")) (vCons (vC (.str "spare")) (vCons (vC (.str "tries")) vNil))))))))
    (vSeq (vDrop (vMet gAppend (vVar 1) (vCons (vTup (vCons (vVal (vLst (vCons (vC (.str "tries 2 all")) (vCons (vC (.str "limit 1")) (vCons (vC (.str "tries 3 fault")) vNil))))) (vCons (vVar 2) (vCons (vC (.int 2)) (vCons (vC (.int 1)) (vCons (vC (.str "bound 1")) (vCons (vC (.int 1)) vNil))))))) vNil)))
    (vSeq (vDrop (vMet gAppend (vVar 1) (vCons (vTup (vCons (vVal (vLst (vCons (vC (.str "limit 1")) (vCons (vC (.str "soft all")) (vCons (vC (.str "limit 1")) (vCons (vC (.str "tries 2 fault")) vNil)))))) (vCons (vVar 2) (vCons (vC (.int 1)) (vCons (vC (.int 1)) (vCons (vC (.str "calm")) (vCons (vC (.int 1)) vNil))))))) vNil)))
    (vSeq (vDrop (vMet gAppend (vVar 1) (vCons (vTup (vCons (vVal (vLst (vCons (vC (.str "keep good 0")) (vCons (vC (.str "keep all ever")) vNil)))) (vCons (vVal (vLst (vCons (vC (.str "once")) (vCons (vC (.str "spare")) (vCons (vC (.str "tries")) vNil))))) (vCons (vC (.int 1)) (vCons (vC (.int 6)) (vCons (vC (.str "kept")) (vCons (vC (.int 2)) vNil))))))) vNil)))
    (vSeq (vSet 3 (vVal (vLst (vCons (vC (.str "calm")) (vCons (vC (.str "fresh")) (vCons (vC (.str "kept")) (vCons (vC (.str "once")) (vCons (vC (.str "spare")) (vCons (vC (.str "tries")) vNil)))))))))
    (vSeq (vDrop (vMet gAppend (vVar 1) (vCons (vTup (vCons (vVal (vLst (vCons (vC (.str "lend")) (vCons (vC (.str "leave")) (vCons (vC (.str "soft fault")) vNil))))) (vCons (vVar 3) (vCons (vC (.int 1)) (vCons (vC (.int 1)) (vCons (vC (.str "leave")) (vCons (vC (.int 1)) vNil))))))) vNil)))
    (vFrz 1 (vRet (vVar 1))))))))))))))))))))))))
def f_cases (c : CS) : VF := vDef 4 (b_cases c)
theorem okv_cases {f : Addr} {fd : FuncData} (F : Fun K "_law_cases" "_law_cases" s_law_cases f fd) (B : Bn mg) : FnOk P w K mg base (L2.CX P w) 1 f fd [] (SpV K 0 (f_cases c)) :=
  okV F sc_cases fun cdv A outer s H E hr => (pss_vcons (ps_vset (i := 0) sc_cases.nd rfl (Or.inl rfl) (pe_vval (pe_vlst (pa_vcons pe_vstr (pa_vcons pe_vstr (pa_vcons pe_vstr (pa_vcons pe_vstr (pa_vcons pe_vstr (pa_vcons pe_vstr (pa_vcons pe_vstr pa_vnil))))))))))
    (pss_vcons (ps_vset (i := 1) sc_cases.nd rfl (Or.inl rfl) (pe_vown (pe_vlst (pa_vcons (pe_vtup (pa_vcons (pe_vval (pe_vlst pa_vnil)) (pa_vcons (pe_vval (pe_vlst (pa_vcons pe_vstr (pa_vcons pe_vstr (pa_vcons pe_vstr (pa_vcons pe_vstr (pa_vcons pe_vstr pa_vnil))))))) (pa_vcons pe_vint (pa_vcons pe_vint (pa_vcons pe_vstr (pa_vcons pe_vint pa_vnil))))))) pa_vnil))))
    (pss_vcons (ps_vexpr (pe_vappend (pe_vvar 1) (pa_vcons (pe_vtup (pa_vcons (pe_vval (pe_vlst (pa_vcons pe_vstr (pa_vcons pe_vstr pa_vnil)))) (pa_vcons (pe_vvar 0) (pa_vcons pe_vint (pa_vcons pe_vint (pa_vcons pe_vstr (pa_vcons pe_vint pa_vnil))))))) pa_vnil)))
    (pss_vcons (ps_vexpr (pe_vappend (pe_vvar 1) (pa_vcons (pe_vtup (pa_vcons (pe_vval (pe_vlst (pa_vcons pe_vstr (pa_vcons pe_vstr pa_vnil)))) (pa_vcons (pe_vvar 0) (pa_vcons pe_vint (pa_vcons pe_vint (pa_vcons pe_vstr (pa_vcons pe_vint pa_vnil))))))) pa_vnil)))
    (pss_vcons (ps_vexpr (pe_vappend (pe_vvar 1) (pa_vcons (pe_vtup (pa_vcons (pe_vval (pe_vlst (pa_vcons pe_vstr pa_vnil))) (pa_vcons (pe_vval (pe_vlst (pa_vcons pe_vstr (pa_vcons pe_vstr (pa_vcons pe_vstr (pa_vcons pe_vstr pa_vnil)))))) (pa_vcons pe_vint (pa_vcons pe_vint (pa_vcons pe_vstr (pa_vcons pe_vint pa_vnil))))))) pa_vnil)))
    (pss_vcons (ps_vexpr (pe_vappend (pe_vvar 1) (pa_vcons (pe_vtup (pa_vcons (pe_vval (pe_vlst (pa_vcons pe_vstr pa_vnil))) (pa_vcons (pe_vval (pe_vlst (pa_vcons pe_vstr (pa_vcons pe_vstr (pa_vcons pe_vstr (pa_vcons pe_vstr (pa_vcons pe_vstr pa_vnil))))))) (pa_vcons pe_vint (pa_vcons pe_vint (pa_vcons pe_vstr (pa_vcons pe_vint pa_vnil))))))) pa_vnil)))
    (pss_vcons (ps_vexpr (pe_vappend (pe_vvar 1) (pa_vcons (pe_vtup (pa_vcons (pe_vval (pe_vlst (pa_vcons pe_vstr pa_vnil))) (pa_vcons (pe_vval (pe_vlst (pa_vcons pe_vstr (pa_vcons pe_vstr (pa_vcons pe_vstr pa_vnil))))) (pa_vcons pe_vint (pa_vcons pe_vint (pa_vcons pe_vstr (pa_vcons pe_vint pa_vnil))))))) pa_vnil)))
    (pss_vcons (ps_vexpr (pe_vappend (pe_vvar 1) (pa_vcons (pe_vtup (pa_vcons (pe_vval (pe_vlst (pa_vcons pe_vstr (pa_vcons pe_vstr pa_vnil)))) (pa_vcons (pe_vval (pe_vlst (pa_vcons pe_vstr (pa_vcons pe_vstr (pa_vcons pe_vstr (pa_vcons pe_vstr pa_vnil)))))) (pa_vcons pe_vint (pa_vcons pe_vint (pa_vcons pe_vstr (pa_vcons pe_vint pa_vnil))))))) pa_vnil)))
    (pss_vcons (ps_vexpr (pe_vappend (pe_vvar 1) (pa_vcons (pe_vtup (pa_vcons (pe_vval (pe_vlst (pa_vcons pe_vstr (pa_vcons pe_vstr pa_vnil)))) (pa_vcons (pe_vval (pe_vlst (pa_vcons pe_vstr (pa_vcons pe_vstr (pa_vcons pe_vstr (pa_vcons pe_vstr (pa_vcons pe_vstr pa_vnil))))))) (pa_vcons pe_vint (pa_vcons pe_vint (pa_vcons pe_vstr (pa_vcons pe_vint pa_vnil))))))) pa_vnil)))
    (pss_vcons (ps_vexpr (pe_vappend (pe_vvar 1) (pa_vcons (pe_vtup (pa_vcons (pe_vval (pe_vlst (pa_vcons pe_vstr (pa_vcons pe_vstr pa_vnil)))) (pa_vcons (pe_vval (pe_vlst (pa_vcons pe_vstr (pa_vcons pe_vstr (pa_vcons pe_vstr (pa_vcons pe_vstr pa_vnil)))))) (pa_vcons pe_vint (pa_vcons pe_vint (pa_vcons pe_vstr (pa_vcons pe_vint pa_vnil))))))) pa_vnil)))
    (pss_vcons (ps_vexpr (pe_vappend (pe_vvar 1) (pa_vcons (pe_vtup (pa_vcons (pe_vval (pe_vlst (pa_vcons pe_vstr (pa_vcons pe_vstr pa_vnil)))) (pa_vcons (pe_vval (pe_vlst (pa_vcons pe_vstr (pa_vcons pe_vstr (pa_vcons pe_vstr (pa_vcons pe_vstr pa_vnil)))))) (pa_vcons pe_vint (pa_vcons pe_vint (pa_vcons pe_vstr (pa_vcons pe_vint pa_vnil))))))) pa_vnil)))
    (pss_vcons (ps_vexpr (pe_vappend (pe_vvar 1) (pa_vcons (pe_vtup (pa_vcons (pe_vval (pe_vlst (pa_vcons pe_vstr (pa_vcons pe_vstr pa_vnil)))) (pa_vcons (pe_vval (pe_vlst (pa_vcons pe_vstr (pa_vcons pe_vstr (pa_vcons pe_vstr (pa_vcons pe_vstr pa_vnil)))))) (pa_vcons pe_vint (pa_vcons pe_vint (pa_vcons pe_vstr (pa_vcons pe_vint pa_vnil))))))) pa_vnil)))
    (pss_vcons (ps_vexpr (pe_vappend (pe_vvar 1) (pa_vcons (pe_vtup (pa_vcons (pe_vval (pe_vlst (pa_vcons pe_vstr (pa_vcons pe_vstr pa_vnil)))) (pa_vcons (pe_vval (pe_vlst (pa_vcons pe_vstr (pa_vcons pe_vstr (pa_vcons pe_vstr (pa_vcons pe_vstr (pa_vcons pe_vstr pa_vnil))))))) (pa_vcons pe_vint (pa_vcons pe_vint (pa_vcons pe_vstr (pa_vcons pe_vint pa_vnil))))))) pa_vnil)))
    (pss_vcons (ps_vexpr (pe_vappend (pe_vvar 1) (pa_vcons (pe_vtup (pa_vcons (pe_vval (pe_vlst (pa_vcons pe_vstr (pa_vcons pe_vstr (pa_vcons pe_vstr pa_vnil))))) (pa_vcons (pe_vval (pe_vlst (pa_vcons pe_vstr (pa_vcons pe_vstr (pa_vcons pe_vstr pa_vnil))))) (pa_vcons pe_vint (pa_vcons pe_vint (pa_vcons pe_vstr (pa_vcons pe_vint pa_vnil))))))) pa_vnil)))
    (pss_vcons (ps_vexpr (pe_vappend (pe_vvar 1) (pa_vcons (pe_vtup (pa_vcons (pe_vval (pe_vlst (pa_vcons pe_vstr (pa_vcons pe_vstr pa_vnil)))) (pa_vcons (pe_vval (pe_vlst (pa_vcons pe_vstr (pa_vcons pe_vstr (pa_vcons pe_vstr (pa_vcons pe_vstr (pa_vcons pe_vstr pa_vnil))))))) (pa_vcons pe_vint (pa_vcons pe_vint (pa_vcons pe_vstr (pa_vcons pe_vint pa_vnil))))))) pa_vnil)))
    (pss_vcons (ps_vset (i := 2) sc_cases.nd rfl (Or.inl rfl) (pe_vval (pe_vlst (pa_vcons pe_vstr (pa_vcons pe_vstr (pa_vcons pe_vstr (pa_vcons pe_vstr (pa_vcons pe_vstr pa_vnil))))))))
    (pss_vcons (ps_vexpr (pe_vappend (pe_vvar 1) (pa_vcons (pe_vtup (pa_vcons (pe_vval (pe_vlst (pa_vcons pe_vstr (pa_vcons pe_vstr (pa_vcons pe_vstr pa_vnil))))) (pa_vcons (pe_vvar 2) (pa_vcons pe_vint (pa_vcons pe_vint (pa_vcons pe_vstr (pa_vcons pe_vint pa_vnil))))))) pa_vnil)))
    (pss_vcons (ps_vexpr (pe_vappend (pe_vvar 1) (pa_vcons (pe_vtup (pa_vcons (pe_vval (pe_vlst (pa_vcons pe_vstr (pa_vcons pe_vstr (pa_vcons pe_vstr (pa_vcons pe_vstr pa_vnil)))))) (pa_vcons (pe_vvar 2) (pa_vcons pe_vint (pa_vcons pe_vint (pa_vcons pe_vstr (pa_vcons pe_vint pa_vnil))))))) pa_vnil)))
    (pss_vcons (ps_vexpr (pe_vappend (pe_vvar 1) (pa_vcons (pe_vtup (pa_vcons (pe_vval (pe_vlst (pa_vcons pe_vstr (pa_vcons pe_vstr pa_vnil)))) (pa_vcons (pe_vval (pe_vlst (pa_vcons pe_vstr (pa_vcons pe_vstr (pa_vcons pe_vstr pa_vnil))))) (pa_vcons pe_vint (pa_vcons pe_vint (pa_vcons pe_vstr (pa_vcons pe_vint pa_vnil))))))) pa_vnil)))
    (pss_vcons (ps_vset (i := 3) sc_cases.nd rfl (Or.inl rfl) (pe_vval (pe_vlst (pa_vcons pe_vstr (pa_vcons pe_vstr (pa_vcons pe_vstr (pa_vcons pe_vstr (pa_vcons pe_vstr (pa_vcons pe_vstr pa_vnil)))))))))
    (pss_vcons (ps_vexpr (pe_vappend (pe_vvar 1) (pa_vcons (pe_vtup (pa_vcons (pe_vval (pe_vlst (pa_vcons pe_vstr (pa_vcons pe_vstr (pa_vcons pe_vstr pa_vnil))))) (pa_vcons (pe_vvar 3) (pa_vcons pe_vint (pa_vcons pe_vint (pa_vcons pe_vstr (pa_vcons pe_vint pa_vnil))))))) pa_vnil)))
    (pss_vone (ps_frz 1 (ps_vret (pe_vvar 1)))))))))))))))))))))))))
abbrev n_is_sequence : List Str := ["value"]
theorem sc_is_sequence : FnScope n_is_sequence ["value"] (defScope s_is_sequence) := ⟨rfl, rfl, rfl, by decide +kernel, rfl, by decide +kernel, by decide +kernel⟩
def b_is_sequence (c : CS) : VS := (vRet (vIsi (tab2 (tyTab isLstB (ctB c)) (tyTab isTupB (ctB c))) (vVar 0)))
def f_is_sequence (c : CS) : VF := vDef 1 (b_is_sequence c)
theorem okv_is_sequence {f : Addr} {fd : FuncData} (F : Fun K "is_sequence" "is_sequence" s_is_sequence f fd) (B : Bn mg) (I_list : CtOk K (.type "list") (ctB c)) (I_tuple : CtOk K (.type "tuple") (ctB c)) : FnOk P w K mg base (L2.CX P w) 1 f fd ["value"] (SpV K 1 (f_is_sequence c)) :=
  okV F sc_is_sequence fun cdv A outer s H E hr => (pss_vone (ps_vret (pe_visi2 (tab2 (tyTab isLstB (ctB c)) (tyTab isTupB (ctB c))) (isT2 (isT1 kLst I_list) (isT1 kTup I_tuple)) (by rfl) B.isinstance_ (pe_vvar 0) (pe_bltn (by rfl) B.list_ (by decide +kernel) (v := .ty "list") rfl) (pe_bltn (by rfl) B.tuple_ (by decide +kernel) (v := .ty "tuple") rfl) (.ty _) (.ty _))))
abbrev n_rows_of : List Str := ["value", "at", "row"]
theorem sc_rows_of : FnScope n_rows_of ["value"] (defScope s_rows_of) := ⟨rfl, rfl, rfl, by decide +kernel, rfl, by decide +kernel, by decide +kernel⟩
def b_rows_of (c : CS) : VS := (vSeq (vIf (vNot (vTest (vCall (f_is_sequence c) (vCons (vVar 0) vNil)))) vNever vNext)
    (vSeq (vFor (vEnum (vCons (vVar 0) vNil)) (vgTup [(vgName 1), (vgName 2)]) (vIf (vNot (vTest (vIsi (tyTab (fun _ => false) (ct_Row c)) (vVar 2)))) vNever vNext))
    (vRet (vB gTupOf (vCons (vVar 0) vNil)))))
def f_rows_of (c : CS) : VF := vDef 3 (b_rows_of c)
theorem okv_rows_of {f : Addr} {fd : FuncData} (F : Fun K "rows_of" "rows_of" s_rows_of f fd) (B : Bn mg) (D_is_sequence : DV P w K mg base "is_sequence" 1 1 (f_is_sequence c)) (I_Row : IsT K [.ref c.Row] (tyTab (fun _ => false) (ct_Row c))) (M_Row : mg "Row" = some (.ref c.Row)) : FnOk P w K mg base (L2.CX P w) 2 f fd ["value"] (SpV K 1 (f_rows_of c)) :=
  okV F sc_rows_of fun cdv A outer s H E hr => (pss_vcons (ps_vif (pt_vnot (pt_vval (pe_vcall D_is_sequence.g (hr.mono (by decide)) (by rfl) D_is_sequence.m D_is_sequence.kp D_is_sequence.b (takes_of rfl rfl rfl rfl) (pa_vcons (pe_vvar 0) pa_vnil) (vcons_len vnil_len)))) (pss_vone ps_vnever) pss_vnil)
    (pss_vcons (ps_vfor (passes_of rfl) rfl (pi_venum (by rfl) B.enumerate_ (pa_vcons (pe_vvar 0) pa_vnil)) (pg_vtup rfl (pgs_vcons (pg_vname (i := 1) sc_rows_of.nd rfl (Or.inl rfl)) (pgs_vcons (pg_vname (i := 2) sc_rows_of.nd rfl (Or.inl rfl)) pgs_vnil))) (pss_vone (ps_vif (pt_vnot (pt_vval (pe_visi (tyTab (fun _ => false) (ct_Row c)) I_Row (by rfl) B.isinstance_ (pe_vvar 2) (pe_glob (v := .ref c.Row) (by rfl) M_Row rfl) (.own _)))) (pss_vone ps_vnever) pss_vnil)))
    (pss_vone (ps_vret (pe_vcallTy cv_tup call_tuple_of (by rfl) B.tuple_ (by decide +kernel) (pa_vcons (pe_vvar 0) pa_vnil))))))
abbrev n_Stack_init : List Str := ["self", "rows"]
theorem sc_Stack_init : FnScope n_Stack_init ["self", "rows"] (defScope s_Stack_init) := ⟨rfl, rfl, rfl, by decide +kernel, rfl, by decide +kernel, by decide +kernel⟩
def b_Stack_init (c : CS) : VS := (vSetF (okA c) "rows" (vVar 0) (vCall (f_rows_of c) (vCons (vVar 1) vNil)))
def f_Stack_init (c : CS) : VF := vDef 2 (b_Stack_init c)
theorem okv_Stack_init {f : Addr} {fd : FuncData} {dvs : List V} (F : FunD K "__init__" "Stack.__init__" (defArgs s_Stack_init) (defBody s_Stack_init) (defScope s_Stack_init) dvs [] f fd) (B : Bn mg) (D_rows_of : DV P w K mg base "rows_of" 2 1 (f_rows_of c)) (O_rows : FldOk K "rows" (okA c)) : FnOk P w K mg base (L2.CX P w) 3 f fd ["self", "rows"] (SpV K 2 (f_Stack_init c)) :=
  okVD F sc_Stack_init fun cdv A outer s H E hr => (pss_vone (ps_vsetF (okA c) O_rows (pe_vvar 0) (pe_vcall D_rows_of.g (hr.mono (by decide)) (by rfl) D_rows_of.m D_rows_of.kp D_rows_of.b (takes_of rfl rfl rfl rfl) (pa_vcons (pe_vvar 1) pa_vnil) (vcons_len vnil_len))))
abbrev n_check_argument : List Str := ["word", "is_right"]
theorem sc_check_argument : FnScope n_check_argument ["word", "is_right"] (defScope s_check_argument) := ⟨rfl, rfl, rfl, by decide +kernel, rfl, by decide +kernel, by decide +kernel⟩
def b_check_argument (c : CS) : VS := (vIf (vNot (vTruth (vVar 1))) vNever vNext)
def f_check_argument (c : CS) : VF := vDef 2 (b_check_argument c)
theorem okv_check_argument {f : Addr} {fd : FuncData} (F : Fun K "check_argument" "check_argument" s_check_argument f fd) (B : Bn mg) : FnOk P w K mg base (L2.CX P w) 1 f fd ["word", "is_right"] (SpV K 2 (f_check_argument c)) :=
  okV F sc_check_argument fun cdv A outer s H E hr => (pss_vone (ps_vif (pt_vnot (pt_vtruth (pe_vvar 1))) (pss_vone ps_vnever) pss_vnil))
abbrev n_is_integer : List Str := ["value"]
theorem sc_is_integer : FnScope n_is_integer ["value"] (defScope s_is_integer) := ⟨rfl, rfl, rfl, by decide +kernel, rfl, by decide +kernel, by decide +kernel⟩
def b_is_integer (c : CS) : VS := (vRet (vAndV (vIsi (tyTab isIntB (ctB c)) (vVar 0)) (vNotV (vIsi (tyTab isBlB (ctB c)) (vVar 0)))))
def f_is_integer (c : CS) : VF := vDef 1 (b_is_integer c)
theorem okv_is_integer {f : Addr} {fd : FuncData} (F : Fun K "is_integer" "is_integer" s_is_integer f fd) (B : Bn mg) (I_bool : CtOk K (.type "bool") (ctB c)) (I_int : CtOk K (.type "int") (ctB c)) : FnOk P w K mg base (L2.CX P w) 1 f fd ["value"] (SpV K 1 (f_is_integer c)) :=
  okV F sc_is_integer fun cdv A outer s H E hr => (pss_vone (ps_vret (pe_vandV (pe_visi (tyTab isIntB (ctB c)) (isT1 kInt I_int) (by rfl) B.isinstance_ (pe_vvar 0) (pe_bltn (by rfl) B.int_ (by decide +kernel) (v := .ty "int") rfl) (.ty _)) (pe_vone (pe_vnotV (pe_visi (tyTab isBlB (ctB c)) (isT1 kBl I_bool) (by rfl) B.isinstance_ (pe_vvar 0) (pe_bltn (by rfl) B.bool_ (by decide +kernel) (v := .ty "bool") rfl) (.ty _)))))))
abbrev n_is_one_of : List Str := ["value", "numbers"]
theorem sc_is_one_of : FnScope n_is_one_of ["value", "numbers"] (defScope s_is_one_of) := ⟨rfl, rfl, rfl, by decide +kernel, rfl, by decide +kernel, by decide +kernel⟩
def b_is_one_of (c : CS) : VS := (vRet (vAndV (vCall (f_is_integer c) (vCons (vVar 0) vNil)) (vBin (gInFlat false) (vVar 0) (vVar 1))))
def f_is_one_of (c : CS) : VF := vDef 2 (b_is_one_of c)
theorem okv_is_one_of {f : Addr} {fd : FuncData} (F : Fun K "is_one_of" "is_one_of" s_is_one_of f fd) (B : Bn mg) (D_is_integer : DV P w K mg base "is_integer" 1 1 (f_is_integer c)) : FnOk P w K mg base (L2.CX P w) 2 f fd ["value", "numbers"] (SpV K 2 (f_is_one_of c)) :=
  okV F sc_is_one_of fun cdv A outer s H E hr => (pss_vone (ps_vret (pe_vandV (pe_vcall D_is_integer.g (hr.mono (by decide)) (by rfl) D_is_integer.m D_is_integer.kp D_is_integer.b (takes_of rfl rfl rfl rfl) (pa_vcons (pe_vvar 0) pa_vnil) (vcons_len vnil_len)) (pe_vone (pe_vinF (by rfl) (pe_vvar 0) (pe_vvar 1))))))
abbrev n_Keep_init : List Str := ["self", "what", "life"]
theorem sc_Keep_init : FnScope n_Keep_init ["self", "what", "life"] (defScope s_Keep_init) := ⟨rfl, rfl, rfl, by decide +kernel, rfl, by decide +kernel, by decide +kernel⟩
def b_Keep_init (c : CS) : VS := (vSeq (vDrop (vCall (f_check_argument c) (vCons (vC (.str "what")) (vCons (vBin (gInFlat false) (vVar 1) (vC (.tup [(.str "good"), (.str "all")]))) vNil))))
    (vSeq (vDrop (vCall (f_check_argument c) (vCons (vC (.str "life")) (vCons (vOrV (vIsN false (vVar 2)) (vCall (f_is_one_of c) (vCons (vVar 2) (vCons (vC (.tup [(.int 0), (.int 1), (.int 2), (.int 3)])) vNil)))) vNil))))
    (vSeq (vSetF (okA c) "what" (vVar 0) (vVar 1))
    (vSetF (okA c) "life" (vVar 0) (vVar 2)))))
def f_Keep_init (c : CS) : VF := vDef 3 (b_Keep_init c)
theorem okv_Keep_init {f : Addr} {fd : FuncData} {dvs : List V} (F : FunD K "__init__" "Keep.__init__" (defArgs s_Keep_init) (defBody s_Keep_init) (defScope s_Keep_init) dvs [] f fd) (B : Bn mg) (D_check_argument : DV P w K mg base "check_argument" 1 2 (f_check_argument c)) (D_is_one_of : DV P w K mg base "is_one_of" 2 2 (f_is_one_of c)) (O_life : FldOk K "life" (okA c)) (O_what : FldOk K "what" (okA c)) (G_LIVES : GV K mg "LIVES" (.tup [(.int 0), (.int 1), (.int 2), (.int 3)])) (G_KEPT_ANSWERS : GV K mg "KEPT_ANSWERS" (.tup [(.str "good"), (.str "all")])) : FnOk P w K mg base (L2.CX P w) 3 f fd ["self", "what", "life"] (SpV K 3 (f_Keep_init c)) :=
  okVD F sc_Keep_init fun cdv A outer s H E hr => (pss_vcons (ps_vexpr (pe_vcall D_check_argument.g (hr.mono (by decide)) (by rfl) D_check_argument.m D_check_argument.kp D_check_argument.b (takes_of rfl rfl rfl rfl) (pa_vcons pe_vstr (pa_vcons (pe_vinF (by rfl) (pe_vvar 1) (pe_vglob (by rfl) G_KEPT_ANSWERS.m G_KEPT_ANSWERS.r G_KEPT_ANSWERS.rp)) pa_vnil)) (vcons_len (vcons_len vnil_len))))
    (pss_vcons (ps_vexpr (pe_vcall D_check_argument.g (hr.mono (by decide)) (by rfl) D_check_argument.m D_check_argument.kp D_check_argument.b (takes_of rfl rfl rfl rfl) (pa_vcons pe_vstr (pa_vcons (pe_vorV (pe_visN (pe_vvar 2)) (pe_vone (pe_vcall D_is_one_of.g (hr.mono (by decide)) (by rfl) D_is_one_of.m D_is_one_of.kp D_is_one_of.b (takes_of rfl rfl rfl rfl) (pa_vcons (pe_vvar 2) (pa_vcons (pe_vglob (by rfl) G_LIVES.m G_LIVES.r G_LIVES.rp) pa_vnil)) (vcons_len (vcons_len vnil_len))))) pa_vnil)) (vcons_len (vcons_len vnil_len))))
    (pss_vcons (ps_vsetF (okA c) O_what (pe_vvar 0) (pe_vvar 1))
    (pss_vone (ps_vsetF (okA c) O_life (pe_vvar 0) (pe_vvar 2))))))
abbrev n_Tries_init : List Str := ["self", "many", "on"]
theorem sc_Tries_init : FnScope n_Tries_init ["self", "many", "on"] (defScope s_Tries_init) := ⟨rfl, rfl, rfl, by decide +kernel, rfl, by decide +kernel, by decide +kernel⟩
def b_Tries_init (c : CS) : VS := (vSeq (vDrop (vCall (f_check_argument c) (vCons (vC (.str "many")) (vCons (vCall (f_is_one_of c) (vCons (vVar 1) (vCons (vC (.tup [(.int 1), (.int 2), (.int 3)])) vNil))) vNil))))
    (vSeq (vDrop (vCall (f_check_argument c) (vCons (vC (.str "on")) (vCons (vBin (gInFlat false) (vVar 2) (vC (.tup [(.str "fault"), (.str "all")]))) vNil))))
    (vSeq (vSetF (okA c) "many" (vVar 0) (vVar 1))
    (vSetF (okA c) "on" (vVar 0) (vVar 2)))))
def f_Tries_init (c : CS) : VF := vDef 3 (b_Tries_init c)
theorem okv_Tries_init {f : Addr} {fd : FuncData} {dvs : List V} (F : FunD K "__init__" "Tries.__init__" (defArgs s_Tries_init) (defBody s_Tries_init) (defScope s_Tries_init) dvs [] f fd) (B : Bn mg) (D_check_argument : DV P w K mg base "check_argument" 1 2 (f_check_argument c)) (D_is_one_of : DV P w K mg base "is_one_of" 2 2 (f_is_one_of c)) (O_on : FldOk K "on" (okA c)) (O_many : FldOk K "many" (okA c)) (G_FAULTS : GV K mg "FAULTS" (.tup [(.str "fault"), (.str "all")])) (G_MOST_ASKED : GV K mg "MOST_ASKED" (.tup [(.int 1), (.int 2), (.int 3)])) : FnOk P w K mg base (L2.CX P w) 3 f fd ["self", "many", "on"] (SpV K 3 (f_Tries_init c)) :=
  okVD F sc_Tries_init fun cdv A outer s H E hr => (pss_vcons (ps_vexpr (pe_vcall D_check_argument.g (hr.mono (by decide)) (by rfl) D_check_argument.m D_check_argument.kp D_check_argument.b (takes_of rfl rfl rfl rfl) (pa_vcons pe_vstr (pa_vcons (pe_vcall D_is_one_of.g (hr.mono (by decide)) (by rfl) D_is_one_of.m D_is_one_of.kp D_is_one_of.b (takes_of rfl rfl rfl rfl) (pa_vcons (pe_vvar 1) (pa_vcons (pe_vglob (by rfl) G_MOST_ASKED.m G_MOST_ASKED.r G_MOST_ASKED.rp) pa_vnil)) (vcons_len (vcons_len vnil_len))) pa_vnil)) (vcons_len (vcons_len vnil_len))))
    (pss_vcons (ps_vexpr (pe_vcall D_check_argument.g (hr.mono (by decide)) (by rfl) D_check_argument.m D_check_argument.kp D_check_argument.b (takes_of rfl rfl rfl rfl) (pa_vcons pe_vstr (pa_vcons (pe_vinF (by rfl) (pe_vvar 2) (pe_vglob (by rfl) G_FAULTS.m G_FAULTS.r G_FAULTS.rp)) pa_vnil)) (vcons_len (vcons_len vnil_len))))
    (pss_vcons (ps_vsetF (okA c) O_many (pe_vvar 0) (pe_vvar 1))
    (pss_vone (ps_vsetF (okA c) O_on (pe_vvar 0) (pe_vvar 2))))))
abbrev n_Limit_init : List Str := ["self", "many"]
theorem sc_Limit_init : FnScope n_Limit_init ["self", "many"] (defScope s_Limit_init) := ⟨rfl, rfl, rfl, by decide +kernel, rfl, by decide +kernel, by decide +kernel⟩
def b_Limit_init (c : CS) : VS := (vSeq (vDrop (vCall (f_check_argument c) (vCons (vC (.str "many")) (vCons (vCall (f_is_one_of c) (vCons (vVar 1) (vCons (vC (.tup [(.int 1), (.int 2), (.int 3), (.int 4), (.int 5), (.int 6)])) vNil))) vNil))))
    (vSetF (okA c) "many" (vVar 0) (vVar 1)))
def f_Limit_init (c : CS) : VF := vDef 2 (b_Limit_init c)
theorem okv_Limit_init {f : Addr} {fd : FuncData} (F : Fun K "__init__" "Limit.__init__" s_Limit_init f fd) (B : Bn mg) (D_check_argument : DV P w K mg base "check_argument" 1 2 (f_check_argument c)) (D_is_one_of : DV P w K mg base "is_one_of" 2 2 (f_is_one_of c)) (O_many : FldOk K "many" (okA c)) (G_MOST_TRIES : GV K mg "MOST_TRIES" (.tup [(.int 1), (.int 2), (.int 3), (.int 4), (.int 5), (.int 6)])) : FnOk P w K mg base (L2.CX P w) 3 f fd ["self", "many"] (SpV K 2 (f_Limit_init c)) :=
  okV F sc_Limit_init fun cdv A outer s H E hr => (pss_vcons (ps_vexpr (pe_vcall D_check_argument.g (hr.mono (by decide)) (by rfl) D_check_argument.m D_check_argument.kp D_check_argument.b (takes_of rfl rfl rfl rfl) (pa_vcons pe_vstr (pa_vcons (pe_vcall D_is_one_of.g (hr.mono (by decide)) (by rfl) D_is_one_of.m D_is_one_of.kp D_is_one_of.b (takes_of rfl rfl rfl rfl) (pa_vcons (pe_vvar 1) (pa_vcons (pe_vglob (by rfl) G_MOST_TRIES.m G_MOST_TRIES.r G_MOST_TRIES.rp) pa_vnil)) (vcons_len (vcons_len vnil_len))) pa_vnil)) (vcons_len (vcons_len vnil_len))))
    (pss_vone (ps_vsetF (okA c) O_many (pe_vvar 0) (pe_vvar 1))))
abbrev n_Soft_init : List Str := ["self", "on"]
theorem sc_Soft_init : FnScope n_Soft_init ["self", "on"] (defScope s_Soft_init) := ⟨rfl, rfl, rfl, by decide +kernel, rfl, by decide +kernel, by decide +kernel⟩
def b_Soft_init (c : CS) : VS := (vSeq (vDrop (vCall (f_check_argument c) (vCons (vC (.str "on")) (vCons (vBin (gInFlat false) (vVar 1) (vC (.tup [(.str "fault"), (.str "all")]))) vNil))))
    (vSetF (okA c) "on" (vVar 0) (vVar 1)))
def f_Soft_init (c : CS) : VF := vDef 2 (b_Soft_init c)
theorem okv_Soft_init {f : Addr} {fd : FuncData} {dvs : List V} (F : FunD K "__init__" "Soft.__init__" (defArgs s_Soft_init) (defBody s_Soft_init) (defScope s_Soft_init) dvs [] f fd) (B : Bn mg) (D_check_argument : DV P w K mg base "check_argument" 1 2 (f_check_argument c)) (O_on : FldOk K "on" (okA c)) (G_FAULTS : GV K mg "FAULTS" (.tup [(.str "fault"), (.str "all")])) : FnOk P w K mg base (L2.CX P w) 2 f fd ["self", "on"] (SpV K 2 (f_Soft_init c)) :=
  okVD F sc_Soft_init fun cdv A outer s H E hr => (pss_vcons (ps_vexpr (pe_vcall D_check_argument.g (hr.mono (by decide)) (by rfl) D_check_argument.m D_check_argument.kp D_check_argument.b (takes_of rfl rfl rfl rfl) (pa_vcons pe_vstr (pa_vcons (pe_vinF (by rfl) (pe_vvar 1) (pe_vglob (by rfl) G_FAULTS.m G_FAULTS.r G_FAULTS.rp)) pa_vnil)) (vcons_len (vcons_len vnil_len))))
    (pss_vone (ps_vsetF (okA c) O_on (pe_vvar 0) (pe_vvar 1))))
abbrev n_every_row : List Str := ["keeps", "tries", "limits", "softs", "what", "life", "many", "on"]
theorem sc_every_row : FnScope n_every_row [] (defScope s_every_row) := ⟨rfl, rfl, rfl, by decide +kernel, rfl, by decide +kernel, by decide +kernel⟩
def b_every_row (c : CS) : VS := (vSeq (vSet 0 (vVal (vComp2 [4, 5] [5] (vItems (vC (.tup [(.str "good"), (.str "all")]))) (vgName 4) vYes (vItems (vTup (vCons (vC .non) (vStar (vC (.tup [(.int 0), (.int 1), (.int 2), (.int 3)])) vNil)))) (vgName 5) vYes (vInsD (vMake c.Keep (f_Keep_init c) (vCons (vVar 4) (vCons (vVar 5) vNil)))))))
    (vSeq (vSet 1 (vVal (vComp2 [6, 7] [7] (vItems (vC (.tup [(.int 1), (.int 2), (.int 3)]))) (vgName 6) vYes (vItems (vC (.tup [(.str "fault"), (.str "all")]))) (vgName 7) vYes (vInsD (vMake c.Tries (f_Tries_init c) (vCons (vVar 6) (vCons (vVar 7) vNil)))))))
    (vSeq (vSet 2 (vVal (vComp [6] (vItems (vC (.tup [(.int 1), (.int 2), (.int 3), (.int 4), (.int 5), (.int 6)]))) (vgName 6) vYes (vInsD (vMake c.Limit (f_Limit_init c) (vCons (vVar 6) vNil))))))
    (vSeq (vSet 3 (vVal (vComp [7] (vItems (vC (.tup [(.str "fault"), (.str "all")]))) (vgName 7) vYes (vInsD (vMake c.Soft (f_Soft_init c) (vCons (vVar 7) vNil))))))
    (vRet (vVal (vLst (vStar (vVar 0) (vStar (vVar 1) (vStar (vVar 2) (vStar (vVar 3) (vCons (vInsD (vMakeO c.Leave)) (vCons (vInsD (vMakeO c.Count)) (vCons (vInsD (vMakeO c.Lend)) vNil))))))))))))))
def f_every_row (c : CS) : VF := vDef 8 (b_every_row c)
theorem okv_every_row {f : Addr} {fd : FuncData} (F : Fun K "every_row" "every_row" s_every_row f fd) (B : Bn mg) (MO_Lend : Own.MkO K c.Lend) (M_Lend : mg "Lend" = some (.ref c.Lend)) (MO_Count : Own.MkO K c.Count) (M_Count : mg "Count" = some (.ref c.Count)) (MO_Leave : Own.MkO K c.Leave) (M_Leave : mg "Leave" = some (.ref c.Leave)) (G_FAULTS : GV K mg "FAULTS" (.tup [(.str "fault"), (.str "all")])) (MI_Soft : MI P w K mg base 2 2 "Soft" c.Soft (f_Soft_init c)) (G_MOST_TRIES : GV K mg "MOST_TRIES" (.tup [(.int 1), (.int 2), (.int 3), (.int 4), (.int 5), (.int 6)])) (MI_Limit : MI P w K mg base 3 2 "Limit" c.Limit (f_Limit_init c)) (G_MOST_ASKED : GV K mg "MOST_ASKED" (.tup [(.int 1), (.int 2), (.int 3)])) (MI_Tries : MI P w K mg base 3 3 "Tries" c.Tries (f_Tries_init c)) (G_KEPT_ANSWERS : GV K mg "KEPT_ANSWERS" (.tup [(.str "good"), (.str "all")])) (G_LIVES : GV K mg "LIVES" (.tup [(.int 0), (.int 1), (.int 2), (.int 3)])) (MI_Keep : MI P w K mg base 3 3 "Keep" c.Keep (f_Keep_init c)) : FnOk P w K mg base (L2.CX P w) 5 f fd [] (SpV K 0 (f_every_row c)) :=
  okV F sc_every_row fun cdv A outer s H E hr => (pss_vcons (ps_vsetLc2 (own := [("what", 4), ("life", 5)]) (vs1 := [5]) (by decide) (by decide) (by decide) rfl sc_every_row.nd (i := 0) rfl rfl (sw_true rfl rfl rfl (by decide +kernel)) (pi_vseq (pe_vglob (by rfl) G_KEPT_ANSWERS.m G_KEPT_ANSWERS.r G_KEPT_ANSWERS.rp)) (blkOk_by (N := n_every_row) (sc := defScope s_every_row) (by decide +kernel)) (fun _ _ _ _ _ => (pg_vname (i := 4) sc_every_row.nd rfl (Or.inl rfl))) (fun _ _ _ _ _ => pts_vnil) (fun _ _ _ _ _ => (pi_vseq (pe_vtup (pa_vcons pe_vnon (pa_vstar (pe_vglob (by rfl) G_LIVES.m G_LIVES.r G_LIVES.rp) pa_vnil))))) (fun _ _ _ _ _ => (pg_vname (i := 5) sc_every_row.nd rfl (Or.inl rfl))) (fun _ _ _ _ _ => pts_vnil) (fun _ _ _ _ _ => (pe_vinsD (pe_vmake MI_Keep.mks MI_Keep.g (hr.mono (by decide)) (by rfl) MI_Keep.m MI_Keep.b takes0 (pa_vcons (pe_vvar 4) (pa_vcons (pe_vvar 5) pa_vnil)) (by intro s ss m e; rw [(vcons_len (vcons_len vnil_len)) s ss m e])))))
    (pss_vcons (ps_vsetLc2 (own := [("many", 6), ("on", 7)]) (vs1 := [7]) (by decide) (by decide) (by decide) rfl sc_every_row.nd (i := 1) rfl rfl (sw_true rfl rfl rfl (by decide +kernel)) (pi_vseq (pe_vglob (by rfl) G_MOST_ASKED.m G_MOST_ASKED.r G_MOST_ASKED.rp)) (blkOk_by (N := n_every_row) (sc := defScope s_every_row) (by decide +kernel)) (fun _ _ _ _ _ => (pg_vname (i := 6) sc_every_row.nd rfl (Or.inl rfl))) (fun _ _ _ _ _ => pts_vnil) (fun _ _ _ _ _ => (pi_vseq (pe_vglob (by rfl) G_FAULTS.m G_FAULTS.r G_FAULTS.rp))) (fun _ _ _ _ _ => (pg_vname (i := 7) sc_every_row.nd rfl (Or.inl rfl))) (fun _ _ _ _ _ => pts_vnil) (fun _ _ _ _ _ => (pe_vinsD (pe_vmake MI_Tries.mks MI_Tries.g (hr.mono (by decide)) (by rfl) MI_Tries.m MI_Tries.b takes0 (pa_vcons (pe_vvar 6) (pa_vcons (pe_vvar 7) pa_vnil)) (by intro s ss m e; rw [(vcons_len (vcons_len vnil_len)) s ss m e])))))
    (pss_vcons (ps_vsetLc (own := [("many", 6)]) (by decide) rfl sc_every_row.nd (i := 2) rfl rfl (sw_true rfl rfl rfl (by decide +kernel)) (pi_vseq (pe_vglob (by rfl) G_MOST_TRIES.m G_MOST_TRIES.r G_MOST_TRIES.rp)) (blkOk_by (N := n_every_row) (sc := defScope s_every_row) (by decide +kernel)) (fun _ _ _ _ _ => (pg_vname (i := 6) sc_every_row.nd rfl (Or.inl rfl))) (fun _ _ _ _ _ => pts_vnil) (fun _ _ _ _ _ => (pe_vinsD (pe_vmake MI_Limit.mks MI_Limit.g (hr.mono (by decide)) (by rfl) MI_Limit.m MI_Limit.b takes0 (pa_vcons (pe_vvar 6) pa_vnil) (by intro s ss m e; rw [(vcons_len vnil_len) s ss m e])))))
    (pss_vcons (ps_vsetLc (own := [("on", 7)]) (by decide) rfl sc_every_row.nd (i := 3) rfl rfl (sw_true rfl rfl rfl (by decide +kernel)) (pi_vseq (pe_vglob (by rfl) G_FAULTS.m G_FAULTS.r G_FAULTS.rp)) (blkOk_by (N := n_every_row) (sc := defScope s_every_row) (by decide +kernel)) (fun _ _ _ _ _ => (pg_vname (i := 7) sc_every_row.nd rfl (Or.inl rfl))) (fun _ _ _ _ _ => pts_vnil) (fun _ _ _ _ _ => (pe_vinsD (pe_vmake MI_Soft.mks MI_Soft.g (hr.mono (by decide)) (by rfl) MI_Soft.m MI_Soft.b takes0 (pa_vcons (pe_vvar 7) pa_vnil) (by intro s ss m e; rw [(vcons_len vnil_len) s ss m e])))))
    (pss_vone (ps_vret (pe_vval (pe_vlst (pa_vstar (pe_vvar 0) (pa_vstar (pe_vvar 1) (pa_vstar (pe_vvar 2) (pa_vstar (pe_vvar 3) (pa_vcons (pe_vinsD (pe_vmakeO MO_Leave (by rfl) M_Leave)) (pa_vcons (pe_vinsD (pe_vmakeO MO_Count (by rfl) M_Count)) (pa_vcons (pe_vinsD (pe_vmakeO MO_Lend (by rfl) M_Lend)) pa_vnil)))))))))))))))
abbrev n_Keep_words : List Str := ["self", "life"]
theorem sc_Keep_words : FnScope n_Keep_words ["self"] (defScope s_Keep_words) := ⟨rfl, rfl, rfl, by decide +kernel, rfl, by decide +kernel, by decide +kernel⟩
def b_Keep_words (c : CS) : VS := (vSeq (vSet 1 (vIfE (vTest (vIsN false (vFld (okA c) "life" (vVar 0)))) (vC (.str "ever")) (vB gStrF (vCons (vFld (okA c) "life" (vVar 0)) vNil))))
    (vRet (vTup (vCons (vC (.str "keep")) (vCons (vFld (okA c) "what" (vVar 0)) (vCons (vVar 1) vNil))))))
def f_Keep_words (c : CS) : VF := vDef 2 (b_Keep_words c)
theorem okv_Keep_words {f : Addr} {fd : FuncData} (F : Fun K "words" "Keep.words" s_Keep_words f fd) (B : Bn mg) (O_what : FldOk K "what" (okA c)) (O_life : FldOk K "life" (okA c)) : FnOk P w K mg base (L2.CX P w) 1 f fd ["self"] (SpV K 1 (f_Keep_words c)) :=
  okV F sc_Keep_words fun cdv A outer s H E hr => (pss_vcons (ps_vset (i := 1) sc_Keep_words.nd rfl (Or.inl rfl) (pe_vifE (pt_visN (pe_vfld (okA c) O_life (pe_vvar 0))) pe_vstr (pe_vcallTy cv_strF call_strF (by rfl) B.str_ (by decide +kernel) (pa_vcons (pe_vfld (okA c) O_life (pe_vvar 0)) pa_vnil))))
    (pss_vone (ps_vret (pe_vtup (pa_vcons pe_vstr (pa_vcons (pe_vfld (okA c) O_what (pe_vvar 0)) (pa_vcons (pe_vvar 1) pa_vnil)))))))
abbrev n_Tries_words : List Str := ["self"]
theorem sc_Tries_words : FnScope n_Tries_words ["self"] (defScope s_Tries_words) := ⟨rfl, rfl, rfl, by decide +kernel, rfl, by decide +kernel, by decide +kernel⟩
def b_Tries_words (c : CS) : VS := (vRet (vTup (vCons (vC (.str "tries")) (vCons (vB gStrF (vCons (vFld (okA c) "many" (vVar 0)) vNil)) (vCons (vFld (okA c) "on" (vVar 0)) vNil)))))
def f_Tries_words (c : CS) : VF := vDef 1 (b_Tries_words c)
theorem okv_Tries_words {f : Addr} {fd : FuncData} (F : Fun K "words" "Tries.words" s_Tries_words f fd) (B : Bn mg) (O_on : FldOk K "on" (okA c)) (O_many : FldOk K "many" (okA c)) : FnOk P w K mg base (L2.CX P w) 1 f fd ["self"] (SpV K 1 (f_Tries_words c)) :=
  okV F sc_Tries_words fun cdv A outer s H E hr => (pss_vone (ps_vret (pe_vtup (pa_vcons pe_vstr (pa_vcons (pe_vcallTy cv_strF call_strF (by rfl) B.str_ (by decide +kernel) (pa_vcons (pe_vfld (okA c) O_many (pe_vvar 0)) pa_vnil)) (pa_vcons (pe_vfld (okA c) O_on (pe_vvar 0)) pa_vnil))))))
abbrev n_Limit_words : List Str := ["self"]
theorem sc_Limit_words : FnScope n_Limit_words ["self"] (defScope s_Limit_words) := ⟨rfl, rfl, rfl, by decide +kernel, rfl, by decide +kernel, by decide +kernel⟩
def b_Limit_words (c : CS) : VS := (vRet (vTup (vCons (vC (.str "limit")) (vCons (vB gStrF (vCons (vFld (okA c) "many" (vVar 0)) vNil)) vNil))))
def f_Limit_words (c : CS) : VF := vDef 1 (b_Limit_words c)
theorem okv_Limit_words {f : Addr} {fd : FuncData} (F : Fun K "words" "Limit.words" s_Limit_words f fd) (B : Bn mg) (O_many : FldOk K "many" (okA c)) : FnOk P w K mg base (L2.CX P w) 1 f fd ["self"] (SpV K 1 (f_Limit_words c)) :=
  okV F sc_Limit_words fun cdv A outer s H E hr => (pss_vone (ps_vret (pe_vtup (pa_vcons pe_vstr (pa_vcons (pe_vcallTy cv_strF call_strF (by rfl) B.str_ (by decide +kernel) (pa_vcons (pe_vfld (okA c) O_many (pe_vvar 0)) pa_vnil)) pa_vnil)))))
abbrev n_Leave_words : List Str := ["self"]
theorem sc_Leave_words : FnScope n_Leave_words ["self"] (defScope s_Leave_words) := ⟨rfl, rfl, rfl, by decide +kernel, rfl, by decide +kernel, by decide +kernel⟩
def b_Leave_words (c : CS) : VS := (vRet (vTup (vCons (vC (.str "leave")) vNil)))
def f_Leave_words (c : CS) : VF := vDef 1 (b_Leave_words c)
theorem okv_Leave_words {f : Addr} {fd : FuncData} (F : Fun K "words" "Leave.words" s_Leave_words f fd) (B : Bn mg) : FnOk P w K mg base (L2.CX P w) 1 f fd ["self"] (SpV K 1 (f_Leave_words c)) :=
  okV F sc_Leave_words fun cdv A outer s H E hr => (pss_vone (ps_vret (pe_vtup (pa_vcons pe_vstr pa_vnil))))
abbrev n_Soft_words : List Str := ["self"]
theorem sc_Soft_words : FnScope n_Soft_words ["self"] (defScope s_Soft_words) := ⟨rfl, rfl, rfl, by decide +kernel, rfl, by decide +kernel, by decide +kernel⟩
def b_Soft_words (c : CS) : VS := (vRet (vTup (vCons (vC (.str "soft")) (vCons (vFld (okA c) "on" (vVar 0)) vNil))))
def f_Soft_words (c : CS) : VF := vDef 1 (b_Soft_words c)
theorem okv_Soft_words {f : Addr} {fd : FuncData} (F : Fun K "words" "Soft.words" s_Soft_words f fd) (B : Bn mg) (O_on : FldOk K "on" (okA c)) : FnOk P w K mg base (L2.CX P w) 1 f fd ["self"] (SpV K 1 (f_Soft_words c)) :=
  okV F sc_Soft_words fun cdv A outer s H E hr => (pss_vone (ps_vret (pe_vtup (pa_vcons pe_vstr (pa_vcons (pe_vfld (okA c) O_on (pe_vvar 0)) pa_vnil)))))
abbrev n_Count_words : List Str := ["self"]
theorem sc_Count_words : FnScope n_Count_words ["self"] (defScope s_Count_words) := ⟨rfl, rfl, rfl, by decide +kernel, rfl, by decide +kernel, by decide +kernel⟩
def b_Count_words (c : CS) : VS := (vRet (vTup (vCons (vC (.str "count")) vNil)))
def f_Count_words (c : CS) : VF := vDef 1 (b_Count_words c)
theorem okv_Count_words {f : Addr} {fd : FuncData} (F : Fun K "words" "Count.words" s_Count_words f fd) (B : Bn mg) : FnOk P w K mg base (L2.CX P w) 1 f fd ["self"] (SpV K 1 (f_Count_words c)) :=
  okV F sc_Count_words fun cdv A outer s H E hr => (pss_vone (ps_vret (pe_vtup (pa_vcons pe_vstr pa_vnil))))
abbrev n_Lend_words : List Str := ["self"]
theorem sc_Lend_words : FnScope n_Lend_words ["self"] (defScope s_Lend_words) := ⟨rfl, rfl, rfl, by decide +kernel, rfl, by decide +kernel, by decide +kernel⟩
def b_Lend_words (c : CS) : VS := (vRet (vTup (vCons (vC (.str "lend")) vNil)))
def f_Lend_words (c : CS) : VF := vDef 1 (b_Lend_words c)
theorem okv_Lend_words {f : Addr} {fd : FuncData} (F : Fun K "words" "Lend.words" s_Lend_words f fd) (B : Bn mg) : FnOk P w K mg base (L2.CX P w) 1 f fd ["self"] (SpV K 1 (f_Lend_words c)) :=
  okV F sc_Lend_words fun cdv A outer s H E hr => (pss_vone (ps_vret (pe_vtup (pa_vcons pe_vstr pa_vnil))))
def tb_words (c : CS) : Addr → Option VF := fun C => if C = c.Keep then some (f_Keep_words c) else if C = c.Tries then some (f_Tries_words c) else if C = c.Limit then some (f_Limit_words c) else if C = c.Leave then some (f_Leave_words c) else if C = c.Soft then some (f_Soft_words c) else if C = c.Count then some (f_Count_words c) else if C = c.Lend then some (f_Lend_words c) else none
abbrev n_Row_str : List Str := ["self"]
theorem sc_Row_str : FnScope n_Row_str ["self"] (defScope s_Row_str) := ⟨rfl, rfl, rfl, by decide +kernel, rfl, by decide +kernel, by decide +kernel⟩
def b_Row_str (c : CS) : VS := (vRet (vM1 gJoin (vC (.str " ")) (vMethD (tb_words c) "words" (vVar 0) vNil)))
def f_Row_str (c : CS) : VF := vDef 1 (b_Row_str c)
theorem okv_Row_str {f : Addr} {fd : FuncData} (F : Fun K "__str__" "Row.__str__" s_Row_str f fd) (B : Bn mg) (T_words : ∀ C vf, tb_words c C = some vf → MVd P w K mg base 1 "words" 1 C vf) : FnOk P w K mg base (L2.CX P w) 2 f fd ["self"] (SpV K 1 (f_Row_str c)) :=
  okV F sc_Row_str fun cdv A outer s H E hr => (pss_vone (ps_vret (pe_vjoin pe_vstr (pe_vmethD0 (takes_of rfl rfl rfl rfl) (fun C vf e => (T_words C vf e).mv (hr.mono (by decide))) (pe_vvar 0)))))
abbrev n_Row_read : List Str := ["cls", "text", "row"]
theorem sc_Row_read : FnScope n_Row_read ["cls", "text"] (defScope s_Row_read) := ⟨rfl, rfl, rfl, by decide +kernel, rfl, by decide +kernel, by decide +kernel⟩
def b_Row_read (c : CS) : VS := (vSeq (vFor (vItems (vCall (f_every_row c) vNil)) (vgName 2) (vIf (vTest (vBin dEq (vB (gStrO (ok_Row c) (f_Row_str c)) (vCons (vVar 2) vNil)) (vVar 1))) (vRet (vVar 2)) vNext))
    vNever)
def f_Row_read (c : CS) : VF := vDef 3 (b_Row_read c)
theorem okv_Row_read {f : Addr} {fd : FuncData} (F : Fun K "read" "Row.read" s_Row_read f fd) (B : Bn mg) (D_every_row : DV P w K mg base "every_row" 5 0 (f_every_row c)) (S_Row : DM P w K mg base 2 1 (f_Row_str c)) (W_Row : ∀ C, ok_Row c C = true → ∃ ge, Own.OwnC K C S_Row.a ge) : FnOk P w K mg base (L2.CX P w) 6 f fd ["cls", "text"] (SpV K 2 (f_Row_read c)) :=
  okV F sc_Row_read fun cdv A outer s H E hr => (pss_vcons (ps_vfor (passes_of rfl) rfl (pi_vseq (pe_vcall0 D_every_row.g (hr.mono (by decide)) (by rfl) D_every_row.m D_every_row.kp D_every_row.b (takes_of rfl rfl rfl rfl))) (pg_vname (i := 2) sc_Row_read.nd rfl (Or.inl rfl)) (pss_vone (ps_vif (pt_veq hr.units (pe_vstrO S_Row.g S_Row.b W_Row (hr.mono (by decide)) (by rfl) B.str_ (by decide +kernel) (pa_vcons (pe_vvar 2) pa_vnil)) (pe_vvar 1)) (pss_vone (ps_vret (pe_vvar 2))) pss_vnil)))
    (pss_vone ps_vnever))
abbrev n_rows_in : List Str := ["lines", "rows", "at", "line"]
theorem sc_rows_in : FnScope n_rows_in ["lines"] (defScope s_rows_in) := ⟨rfl, rfl, rfl, by decide +kernel, rfl, by decide +kernel, by decide +kernel⟩
def b_rows_in (c : CS) : VS := (vSeq (vSet 1 (vOwn (vLst vNil)))
    (vSeq (vFor (vEnum (vCons (vVar 0) vNil)) (vgTup [(vgName 2), (vgName 3)]) (vNoEx (vDrop (vMet gAppend (vVar 1) (vCons (vCMeth c.Row (f_Row_read c) (vCons (vVar 3) vNil)) vNil)))))
    (vFrz 1 (vRet (vVar 1)))))
def f_rows_in (c : CS) : VF := vDef 4 (b_rows_in c)
theorem okv_rows_in {f : Addr} {fd : FuncData} (F : Fun K "rows_in" "rows_in" s_rows_in f fd) (B : Bn mg) (C_Row_read : CM P w K mg base 6 2 "read" c.Row (f_Row_read c)) (M_Row : mg "Row" = some (.ref c.Row)) : FnOk P w K mg base (L2.CX P w) 7 f fd ["lines"] (SpV K 1 (f_rows_in c)) :=
  okV F sc_rows_in fun cdv A outer s H E hr => (pss_vcons (ps_vset (i := 1) sc_rows_in.nd rfl (Or.inl rfl) (pe_vown (pe_vlst pa_vnil)))
    (pss_vcons (ps_vfor (passes_of rfl) rfl (pi_venum (by rfl) B.enumerate_ (pa_vcons (pe_vvar 0) pa_vnil)) (pg_vtup rfl (pgs_vcons (pg_vname (i := 2) sc_rows_in.nd rfl (Or.inl rfl)) (pgs_vcons (pg_vname (i := 3) sc_rows_in.nd rfl (Or.inl rfl)) pgs_vnil))) (pss_vone (ps_vthru (by exact (pss_vone (ps_vexpr (pe_vappend (pe_vvar 1) (pa_vcons (pe_vcmeth C_Row_read (pe_glob (v := .ref c.Row) (by rfl) M_Row rfl) (hr.mono (by decide)) takes0 (pa_vcons (pe_vvar 3) pa_vnil) (by intro s ss m e; rw [(vcons_len vnil_len) s ss m e])) pa_vnil))))))))
    (pss_vone (ps_frz 1 (ps_vret (pe_vvar 1))))))
abbrev n_Stack_read : List Str := ["cls", "text"]
theorem sc_Stack_read : FnScope n_Stack_read ["cls", "text"] (defScope s_Stack_read) := ⟨rfl, rfl, rfl, by decide +kernel, rfl, by decide +kernel, by decide +kernel⟩
def b_Stack_read (c : CS) : VS := (vSeq (vIf (vTest (vBin dEq (vVar 1) (vC (.str "")))) (vRet (vInsD (vAtC 0 c.Stack (vMakeD c.Stack (f_Stack_init c) [(.tup [])] vNil)))) vNext)
    (vRet (vInsD (vAtC 0 c.Stack (vMakeD c.Stack (f_Stack_init c) [] (vCons (vCall (f_rows_in c) (vCons (vVal (vSplit (vVar 1) (vC (.str "\n")))) vNil)) vNil))))))
def f_Stack_read (c : CS) : VF := vDef 2 (b_Stack_read c)
theorem okv_Stack_read {f : Addr} {fd : FuncData} (F : Fun K "read" "Stack.read" s_Stack_read f fd) (B : Bn mg) (D_rows_in : DV P w K mg base "rows_in" 7 1 (f_rows_in c)) (MD_Stack_0 : MD P w K mg base 3 2 c.Stack (f_Stack_init c) []) (MD_Stack_1 : MD P w K mg base 3 2 c.Stack (f_Stack_init c) [(.tup [])]) : FnOk P w K mg base (L2.CX P w) 8 f fd ["cls", "text"] (SpV K 2 (f_Stack_read c)) :=
  okV F sc_Stack_read fun cdv A outer s H E hr => (pss_vcons (ps_vif (pt_veq hr.units (pe_vvar 1) pe_vstr) (pss_vone (ps_vret (pe_vinsD (pe_vmakeL0 (i := 0) MD_Stack_1 (hr.mono (by decide)) rfl (by first | exact Or.inl rfl | exact Or.inr (Or.inl rfl)) (takes_of rfl rfl rfl rfl) rfl)))) pss_vnil)
    (pss_vone (ps_vret (pe_vinsD (pe_vmakeL (i := 0) MD_Stack_0 (hr.mono (by decide)) rfl (by first | exact Or.inl rfl | exact Or.inr (Or.inl rfl)) (takes_of rfl rfl rfl rfl) (pa_vcons (pe_vcall D_rows_in.g (hr.mono (by decide)) (by rfl) D_rows_in.m D_rows_in.kp D_rows_in.b (takes_of rfl rfl rfl rfl) (pa_vcons (pe_vval (pe_vsplit (pe_vvar 1) pe_vstr)) pa_vnil) (vcons_len vnil_len)) pa_vnil) (by intro s ss m e; rw [(vcons_len vnil_len) s ss m e]; rfl))))))
abbrev n_is_wish : List Str := ["value"]
theorem sc_is_wish : FnScope n_is_wish ["value"] (defScope s_is_wish) := ⟨rfl, rfl, rfl, by decide +kernel, rfl, by decide +kernel, by decide +kernel⟩
def b_is_wish (c : CS) : VS := (vRet (vAndV (vIsi (tyTab isStrB (ctB c)) (vVar 0)) (vOrV (vKi false tabI_BREAKS (vVar 0)) (vKi false tabI_BOUNDS (vVar 0)))))
def f_is_wish (c : CS) : VF := vDef 1 (b_is_wish c)
theorem okv_is_wish {f : Addr} {fd : FuncData} (F : Fun K "is_wish" "is_wish" s_is_wish f fd) (B : Bn mg) (KI_BOUNDS : KDi K w mg "BOUNDS" tabI_BOUNDS) (KI_BREAKS : KDi K w mg "BREAKS" tabI_BREAKS) (I_str : CtOk K (.type "str") (ctB c)) : FnOk P w K mg base (L2.CX P w) 1 f fd ["value"] (SpV K 1 (f_is_wish c)) :=
  okV F sc_is_wish fun cdv A outer s H E hr => (pss_vone (ps_vret (pe_vandV (pe_visi (tyTab isStrB (ctB c)) (isT1 kStr I_str) (by rfl) B.isinstance_ (pe_vvar 0) (pe_bltn (by rfl) B.str_ (by decide +kernel) (v := .ty "str") rfl) (.ty _)) (pe_vone (pe_vorV (pe_vinKd KI_BREAKS (by rfl) (by rfl) (pe_vvar 0)) (pe_vone (pe_vinKd KI_BOUNDS (by rfl) (by rfl) (pe_vvar 0))))))))
abbrev n_check_wish : List Str := ["value"]
theorem sc_check_wish : FnScope n_check_wish ["value"] (defScope s_check_wish) := ⟨rfl, rfl, rfl, by decide +kernel, rfl, by decide +kernel, by decide +kernel⟩
def b_check_wish (c : CS) : VS := (vIf (vNot (vTest (vCall (f_is_wish c) (vCons (vVar 0) vNil)))) vNever vNext)
def f_check_wish (c : CS) : VF := vDef 1 (b_check_wish c)
theorem okv_check_wish {f : Addr} {fd : FuncData} (F : Fun K "check_wish" "check_wish" s_check_wish f fd) (B : Bn mg) (D_is_wish : DV P w K mg base "is_wish" 1 1 (f_is_wish c)) : FnOk P w K mg base (L2.CX P w) 2 f fd ["value"] (SpV K 1 (f_check_wish c)) :=
  okV F sc_check_wish fun cdv A outer s H E hr => (pss_vone (ps_vif (pt_vnot (pt_vval (pe_vcall D_is_wish.g (hr.mono (by decide)) (by rfl) D_is_wish.m D_is_wish.kp D_is_wish.b (takes_of rfl rfl rfl rfl) (pa_vcons (pe_vvar 0) pa_vnil) (vcons_len vnil_len)))) (pss_vone ps_vnever) pss_vnil))
abbrev n_reached : List Str := ["start", "steps_from", "found", "queue", "at", "here", "label", "there"]
theorem sc_reached : FnScope n_reached ["start", "steps_from"] (defScope s_reached) := ⟨rfl, rfl, rfl, by decide +kernel, rfl, by decide +kernel, by decide +kernel⟩
def b_reached (c : CS) (fl : Addr) (vf : VF) : VS := (vSeq (vSet 2 (vBin gNDisp (vVar 0) (vC .non)))
    (vSeq (vSet 3 (vOwn (vLst (vCons (vVar 0) vNil))))
    (vSeq (vSet 4 (vC (.int 0)))
    (vSeq (vWh (vTest (vBin dLt (vVar 4) (vB gLen (vCons (vVar 3) vNil)))) (vSeq (vSet 5 (vBin gIx (vVar 3) (vVar 4)))
    (vSeq (vFor (vItems (vCallF 1 fl vf (vCons (vVar 5) vNil))) (vgTup [(vgName 6), (vgName 7)]) (vIf (vTest (vBin (gNIn true) (vVar 7) (vVar 2))) (vSeq (vNSet (vVar 2) (vVar 7) (vTup (vCons (vVar 5) (vCons (vVar 6) vNil))))
    (vDrop (vMet gAppend (vVar 3) (vCons (vVar 7) vNil)))) vNext))
    (vAug 4 (fun i j => i + j) (vC (.int 1))))) 1000)
    (vRet (vVar 2))))))
def f_reached (c : CS) : Addr → VF → VF := fun fl vf => vDef 8 (b_reached c fl vf)
theorem okv_reached {f : Addr} {fd : FuncData} (F : Fun K "reached" "reached" s_reached f fd) (B : Bn mg) (HP : P = WW.p) (HW : w = WW.w) : FnLam P w K mg base 1 f fd ["start", "steps_from"] 2 1 (f_reached c) :=
  okVL F sc_reached fun cdv A outer s H E fl vf hr act => (pss_vcons (ps_vset (i := 2) sc_reached.nd rfl (Or.inl rfl) (pe_vndisp HP HW (u64 hr) (pe_vvar 0) pe_vnon))
    (pss_vcons (ps_vset (i := 3) sc_reached.nd rfl (Or.inl rfl) (pe_vown (pe_vlst (pa_vcons (pe_vvar 0) pa_vnil))))
    (pss_vcons (ps_vset (i := 4) sc_reached.nd rfl (Or.inl rfl) pe_vint)
    (pss_vcons (ps_vwhile 1000 (passes_of rfl) (pt_vlt (pe_vvar 4) (pe_vcallB cv_len call_len1 (by rfl) B.len_ (by decide +kernel) (pa_vcons (pe_vvar 3) pa_vnil))) (pss_vcons (ps_vset (i := 5) sc_reached.nd rfl (Or.inl rfl) (pe_vix (fun _ _ => rfl) (pe_vvar 3) (pe_vvar 4)))
    (pss_vcons (ps_vfor (passes_of rfl) rfl (pi_vseq (pe_vcallF (i := 1) act rfl (by first | exact Or.inl rfl | exact Or.inr (Or.inl rfl)) (takes_of rfl rfl rfl rfl) (pa_vcons (pe_vvar 5) pa_vnil) (vcons_len vnil_len))) (pg_vtup rfl (pgs_vcons (pg_vname (i := 6) sc_reached.nd rfl (Or.inl rfl)) (pgs_vcons (pg_vname (i := 7) sc_reached.nd rfl (Or.inl rfl)) pgs_vnil))) (pss_vone (ps_vif (pt_vnnotin HP HW (u64 hr) (by rfl) (pe_vvar 7) (pe_vvar 2)) (pss_vcons (ps_vnset HP HW (u64 hr) (pe_vvar 2) (pe_vvar 7) (pe_vtup (pa_vcons (pe_vvar 5) (pa_vcons (pe_vvar 6) pa_vnil))))
    (pss_vone (ps_vexpr (pe_vappend (pe_vvar 3) (pa_vcons (pe_vvar 7) pa_vnil))))) pss_vnil)))
    (pss_vone (ps_vaug (i := 4) sc_reached.nd rfl (Or.inl rfl) pe_vint ip_add)))))
    (pss_vone (ps_vret (pe_vvar 2)))))))
abbrev n_begun : List Str := ["stack", "row"]
theorem sc_begun : FnScope n_begun ["stack"] (defScope s_begun) := ⟨rfl, rfl, rfl, by decide +kernel, rfl, by decide +kernel, by decide +kernel⟩
def b_begun (c : CS) : VS := (vRet (vB gTupOf (vCons (vVal (vComp [1] (vItems (vFld (okA c) "rows" (vVar 0))) (vgName 1) vYes (vC .non))) vNil)))
def f_begun (c : CS) : VF := vDef 2 (b_begun c)
theorem okv_begun {f : Addr} {fd : FuncData} (F : Fun K "begun" "begun" s_begun f fd) (B : Bn mg) (O_rows : FldOk K "rows" (okA c)) : FnOk P w K mg base (L2.CX P w) 1 f fd ["stack"] (SpV K 1 (f_begun c)) :=
  okV F sc_begun fun cdv A outer s H E hr => (pss_vone (ps_vret (pe_vcallTy cv_tup call_tuple_of (by rfl) B.tuple_ (by decide +kernel) (pa_vcons (pe_vval (pe_vcomp (own := [("row", 1)]) (by decide) rfl sc_begun.nd (pi_vseq (pe_vfld (okA c) O_rows (pe_vvar 0))) (blkOk_by (N := n_begun) (sc := defScope s_begun) (by decide +kernel)) (fun _ _ _ _ _ => (pg_vname (i := 1) sc_begun.nd rfl (Or.inl rfl))) (fun _ _ _ _ _ => pts_vnil) (fun _ _ _ _ _ => pe_vnon))) pa_vnil))))
abbrev n_Call_make_try : List Str := ["self", "at", "tries_before"]
theorem sc_Call_make_try : FnScope n_Call_make_try ["self"] (defScope s_Call_make_try) := ⟨rfl, rfl, rfl, by decide +kernel, rfl, by decide +kernel, by decide +kernel⟩
def b_Call_make_try (c : CS) : VS := (vSeq (vForO (vFld (okA c) "limits" (vVar 0)) (vgTup [(vgName 1), (vgName 2)]) (vIf (vTest (vBin dGe (vBin dSub (vFld (okA c) "tries" (vVar 0)) (vVar 2)) (vFld (okA c) "many" (vBin gIx (vFld (okA c) "rows" (vVar 0)) (vVar 1))))) (vSeq (vSetF (okA c) "cut_by" (vVar 0) (vVar 1))
    (vRet (vC .non))) vNext))
    (vSeq (vAugF (okA c) "tries" (vVar 0) (vC (.int 1)))
    (vSeq (vIf (vTest (vBin dGt (vFld (okA c) "tries" (vVar 0)) (vB gLen (vCons (vFld (okA c) "outcomes" (vVar 0)) vNil)))) (vRet (vC (.str "fault"))) vNext)
    (vRet (vBin gIx (vFld (okA c) "outcomes" (vVar 0)) (vBin dSub (vFld (okA c) "tries" (vVar 0)) (vC (.int 1))))))))
def f_Call_make_try (c : CS) : VF := vDef 3 (b_Call_make_try c)
theorem okv_Call_make_try {f : Addr} {fd : FuncData} (F : Fun K "make_try" "Call.make_try" s_Call_make_try f fd) (B : Bn mg) (O_outcomes : FldOk K "outcomes" (okA c)) (O_tries : FldOk K "tries" (okA c)) (O_limits : FldOk K "limits" (okA c)) (O_many : FldOk K "many" (okA c)) (O_rows : FldOk K "rows" (okA c)) (O_cut_by : FldOk K "cut_by" (okA c)) : FnOk P w K mg base (L2.CX P w) 1 f fd ["self"] (SpV K 1 (f_Call_make_try c)) :=
  okV F sc_Call_make_try fun cdv A outer s H E hr => (pss_vcons (ps_vforO (passes_of rfl) rfl (pe_vfld (okA c) O_limits (pe_vvar 0)) (pg_vtup rfl (pgs_vcons (pg_vname (i := 1) sc_Call_make_try.nd rfl (Or.inl rfl)) (pgs_vcons (pg_vname (i := 2) sc_Call_make_try.nd rfl (Or.inl rfl)) pgs_vnil))) (pss_vone (ps_vif (pt_vge (pe_vsub (pe_vfld (okA c) O_tries (pe_vvar 0)) (pe_vvar 2)) (pe_vfld (okA c) O_many (pe_vix (fun _ _ => rfl) (pe_vfld (okA c) O_rows (pe_vvar 0)) (pe_vvar 1)))) (pss_vcons (ps_vsetF (okA c) O_cut_by (pe_vvar 0) (pe_vvar 1))
    (pss_vone (ps_vret pe_vnon))) pss_vnil)))
    (pss_vcons (ps_vaugF (okA c) O_tries (pe_vvar 0) pe_vint)
    (pss_vcons (ps_vif (pt_vgt (pe_vfld (okA c) O_tries (pe_vvar 0)) (pe_vcallB cv_len call_len1 (by rfl) B.len_ (by decide +kernel) (pa_vcons (pe_vfld (okA c) O_outcomes (pe_vvar 0)) pa_vnil))) (pss_vone (ps_vret pe_vstr)) pss_vnil)
    (pss_vone (ps_vret (pe_vix (fun _ _ => rfl) (pe_vfld (okA c) O_outcomes (pe_vvar 0)) (pe_vsub (pe_vfld (okA c) O_tries (pe_vvar 0)) pe_vint)))))))
abbrev n_may_store : List Str := ["row", "answer"]
theorem sc_may_store : FnScope n_may_store ["row", "answer"] (defScope s_may_store) := ⟨rfl, rfl, rfl, by decide +kernel, rfl, by decide +kernel, by decide +kernel⟩
def b_may_store (c : CS) : VS := (vRet (vOrV (vBin dEq (vFld (okA c) "what" (vVar 0)) (vC (.str "all"))) (vBin (gInFlat true) (vVar 1) (vC (.tup [(.str "fault"), (.str "late"), (.str "denied")])))))
def f_may_store (c : CS) : VF := vDef 2 (b_may_store c)
theorem okv_may_store {f : Addr} {fd : FuncData} (F : Fun K "may_store" "may_store" s_may_store f fd) (B : Bn mg) (G_BAD : GV K mg "BAD" (.tup [(.str "fault"), (.str "late"), (.str "denied")])) (O_what : FldOk K "what" (okA c)) : FnOk P w K mg base (L2.CX P w) 1 f fd ["row", "answer"] (SpV K 2 (f_may_store c)) :=
  okV F sc_may_store fun cdv A outer s H E hr => (pss_vone (ps_vret (pe_vorV (pe_veq hr.units (pe_vfld (okA c) O_what (pe_vvar 0)) pe_vstr) (pe_vone (pe_vnotInF (by rfl) (pe_vvar 1) (pe_vglob (by rfl) G_BAD.m G_BAD.r G_BAD.rp))))))
def tb_ask (c : CS) (g : Gp0) : Addr → Option VF := fun C => if C = c.Call then some g.Call_ask else none
def tb_ask_keeper (c : CS) (g : Gp0) : Addr → Option VF := fun C => if C = c.Call then some g.Call_ask_keeper else none
def tb_ask_limited (c : CS) (g : Gp0) : Addr → Option VF := fun C => if C = c.Call then some g.Call_ask_limited else none
def tb_ask_repeatedly (c : CS) (g : Gp0) : Addr → Option VF := fun C => if C = c.Call then some g.Call_ask_repeatedly else none
def tb_ask_softly (c : CS) (g : Gp0) : Addr → Option VF := fun C => if C = c.Call then some g.Call_ask_softly else none
def tb_make_try (c : CS) : Addr → Option VF := fun C => if C = c.Call then some (f_Call_make_try c) else none
abbrev n_Call_ask : List Str := ["self", "at", "caller", "row"]
theorem sc_Call_ask : FnScope n_Call_ask ["self", "at", "caller"] (defScope s_Call_ask) := ⟨rfl, rfl, rfl, by decide +kernel, rfl, by decide +kernel, by decide +kernel⟩
def b_Call_ask (c : CS) (g : Gp0) : VS := (vSeq (vIf (vTest (vBin dEq (vVar 1) (vB gLen (vCons (vFld (okA c) "rows" (vVar 0)) vNil)))) (vRet (vMethD (tb_make_try c) "make_try" (vVar 0) vNil)) vNext)
    (vSeq (vSet 3 (vBin gIx (vFld (okA c) "rows" (vVar 0)) (vVar 1)))
    (vSeq (vIf (vTest (vIsi (tyTab (fun _ => false) (ct_Keep c)) (vVar 3))) (vRet (vMethD (tb_ask_keeper c g) "ask_keeper" (vVar 0) (vCons (vVar 1) (vCons (vVar 2) vNil)))) vNext)
    (vSeq (vIf (vTest (vIsi (tyTab (fun _ => false) (ct_Tries c)) (vVar 3))) (vRet (vMethD (tb_ask_repeatedly c g) "ask_repeatedly" (vVar 0) (vCons (vVar 1) (vCons (vVar 2) vNil)))) vNext)
    (vSeq (vIf (vTest (vIsi (tyTab (fun _ => false) (ct_Limit c)) (vVar 3))) (vRet (vMethD (tb_ask_limited c g) "ask_limited" (vVar 0) (vCons (vVar 1) (vCons (vVar 2) vNil)))) vNext)
    (vSeq (vIf (vTest (vIsi (tyTab (fun _ => false) (ct_Soft c)) (vVar 3))) (vRet (vMethD (tb_ask_softly c g) "ask_softly" (vVar 0) (vCons (vVar 1) (vCons (vVar 2) vNil)))) vNext)
    (vSeq (vIf (vAnd (vTest (vIsi (tyTab (fun _ => false) (ct_Leave c)) (vVar 3))) (vTest (vBin dEq (vVar 2) (vC (.str "out"))))) (vRet (vC (.str "denied"))) vNext)
    (vSeq (vIf (vTest (vIsi (tyTab (fun _ => false) (ct_Count c)) (vVar 3))) (vAugI (vFld (okA c) "counts" (vVar 0)) (vVar 1) (vC (.int 1))) vNext)
    (vRet (vMethD (tb_ask c g) "ask" (vVar 0) (vCons (vBin gAdd (vVar 1) (vC (.int 1))) (vCons (vIfE (vTest (vIsi (tyTab (fun _ => false) (ct_Lend c)) (vVar 3))) (vC (.str "in")) (vVar 2)) vNil))))))))))))
theorem okv_Call_ask {f : Addr} {fd : FuncData} {kk : Nat} {g : Gp0} (F : Fun K "ask" "Call.ask" s_Call_ask f fd) (B : Bn mg) (I_Lend : IsT K [.ref c.Lend] (tyTab (fun _ => false) (ct_Lend c))) (M_Lend : mg "Lend" = some (.ref c.Lend)) (T_ask : ∀ C vf, tb_ask c g C = some vf → MVd P w K mg base kk "ask" 3 C vf) (I_Count : IsT K [.ref c.Count] (tyTab (fun _ => false) (ct_Count c))) (M_Count : mg "Count" = some (.ref c.Count)) (O_counts : FldOk K "counts" (okA c)) (I_Leave : IsT K [.ref c.Leave] (tyTab (fun _ => false) (ct_Leave c))) (M_Leave : mg "Leave" = some (.ref c.Leave)) (I_Soft : IsT K [.ref c.Soft] (tyTab (fun _ => false) (ct_Soft c))) (M_Soft : mg "Soft" = some (.ref c.Soft)) (T_ask_softly : ∀ C vf, tb_ask_softly c g C = some vf → MVd P w K mg base kk "ask_softly" 3 C vf) (I_Limit : IsT K [.ref c.Limit] (tyTab (fun _ => false) (ct_Limit c))) (M_Limit : mg "Limit" = some (.ref c.Limit)) (T_ask_limited : ∀ C vf, tb_ask_limited c g C = some vf → MVd P w K mg base kk "ask_limited" 3 C vf) (I_Tries : IsT K [.ref c.Tries] (tyTab (fun _ => false) (ct_Tries c))) (M_Tries : mg "Tries" = some (.ref c.Tries)) (T_ask_repeatedly : ∀ C vf, tb_ask_repeatedly c g C = some vf → MVd P w K mg base kk "ask_repeatedly" 3 C vf) (I_Keep : IsT K [.ref c.Keep] (tyTab (fun _ => false) (ct_Keep c))) (M_Keep : mg "Keep" = some (.ref c.Keep)) (T_ask_keeper : ∀ C vf, tb_ask_keeper c g C = some vf → MVd P w K mg base kk "ask_keeper" 3 C vf) (O_rows : FldOk K "rows" (okA c)) (T_make_try : ∀ C vf, tb_make_try c C = some vf → MVd P w K mg base 1 "make_try" 1 C vf) : FnOk P w K mg base (L2.CX P w) (kk + 1 + 1) f fd ["self", "at", "caller"] (SpV K 3 (vDef 4 (b_Call_ask c g))) :=
  okV F sc_Call_ask fun cdv A outer s H E hr => (pss_vcons (ps_vif (pt_veq hr.units (pe_vvar 1) (pe_vcallB cv_len call_len1 (by rfl) B.len_ (by decide +kernel) (pa_vcons (pe_vfld (okA c) O_rows (pe_vvar 0)) pa_vnil))) (pss_vone (ps_vret (pe_vmethD0 (takes_of rfl rfl rfl rfl) (fun C vf e => (T_make_try C vf e).mv (hr.mono (by omega))) (pe_vvar 0)))) pss_vnil)
    (pss_vcons (ps_vset (i := 3) sc_Call_ask.nd rfl (Or.inl rfl) (pe_vix (fun _ _ => rfl) (pe_vfld (okA c) O_rows (pe_vvar 0)) (pe_vvar 1)))
    (pss_vcons (ps_vif (pt_vval (pe_visi (tyTab (fun _ => false) (ct_Keep c)) I_Keep (by rfl) B.isinstance_ (pe_vvar 3) (pe_glob (v := .ref c.Keep) (by rfl) M_Keep rfl) (.own _))) (pss_vone (ps_vret (pe_vmethD (takes_of rfl rfl rfl rfl) (fun C vf e => (T_ask_keeper C vf e).mv (hr.mono (by omega))) (by intro s ss m e; rw [(vcons_len (vcons_len vnil_len)) s ss m e]) (pe_vvar 0) (pa_vcons (pe_vvar 1) (pa_vcons (pe_vvar 2) pa_vnil))))) pss_vnil)
    (pss_vcons (ps_vif (pt_vval (pe_visi (tyTab (fun _ => false) (ct_Tries c)) I_Tries (by rfl) B.isinstance_ (pe_vvar 3) (pe_glob (v := .ref c.Tries) (by rfl) M_Tries rfl) (.own _))) (pss_vone (ps_vret (pe_vmethD (takes_of rfl rfl rfl rfl) (fun C vf e => (T_ask_repeatedly C vf e).mv (hr.mono (by omega))) (by intro s ss m e; rw [(vcons_len (vcons_len vnil_len)) s ss m e]) (pe_vvar 0) (pa_vcons (pe_vvar 1) (pa_vcons (pe_vvar 2) pa_vnil))))) pss_vnil)
    (pss_vcons (ps_vif (pt_vval (pe_visi (tyTab (fun _ => false) (ct_Limit c)) I_Limit (by rfl) B.isinstance_ (pe_vvar 3) (pe_glob (v := .ref c.Limit) (by rfl) M_Limit rfl) (.own _))) (pss_vone (ps_vret (pe_vmethD (takes_of rfl rfl rfl rfl) (fun C vf e => (T_ask_limited C vf e).mv (hr.mono (by omega))) (by intro s ss m e; rw [(vcons_len (vcons_len vnil_len)) s ss m e]) (pe_vvar 0) (pa_vcons (pe_vvar 1) (pa_vcons (pe_vvar 2) pa_vnil))))) pss_vnil)
    (pss_vcons (ps_vif (pt_vval (pe_visi (tyTab (fun _ => false) (ct_Soft c)) I_Soft (by rfl) B.isinstance_ (pe_vvar 3) (pe_glob (v := .ref c.Soft) (by rfl) M_Soft rfl) (.own _))) (pss_vone (ps_vret (pe_vmethD (takes_of rfl rfl rfl rfl) (fun C vf e => (T_ask_softly C vf e).mv (hr.mono (by omega))) (by intro s ss m e; rw [(vcons_len (vcons_len vnil_len)) s ss m e]) (pe_vvar 0) (pa_vcons (pe_vvar 1) (pa_vcons (pe_vvar 2) pa_vnil))))) pss_vnil)
    (pss_vcons (ps_vif (PW.pt (pw_vand (pt_vval (pe_visi (tyTab (fun _ => false) (ct_Leave c)) I_Leave (by rfl) B.isinstance_ (pe_vvar 3) (pe_glob (v := .ref c.Leave) (by rfl) M_Leave rfl) (.own _))) (pw_vand1 (pt_veq hr.units (pe_vvar 2) pe_vstr)))) (pss_vone (ps_vret pe_vstr)) pss_vnil)
    (pss_vcons (ps_vif (pt_vval (pe_visi (tyTab (fun _ => false) (ct_Count c)) I_Count (by rfl) B.isinstance_ (pe_vvar 3) (pe_glob (v := .ref c.Count) (by rfl) M_Count rfl) (.own _))) (pss_vone (ps_vaugI (pe_vfld (okA c) O_counts (pe_vvar 0)) (pe_vvar 1) pe_vint)) pss_vnil)
    (pss_vone (ps_vret (pe_vmethD (takes_of rfl rfl rfl rfl) (fun C vf e => (T_ask C vf e).mv (hr.mono (by omega))) (by intro s ss m e; rw [(vcons_len (vcons_len vnil_len)) s ss m e]) (pe_vvar 0) (pa_vcons (pe_vadd (pe_vvar 1) pe_vint) (pa_vcons (pe_vifE (pt_vval (pe_visi (tyTab (fun _ => false) (ct_Lend c)) I_Lend (by rfl) B.isinstance_ (pe_vvar 3) (pe_glob (v := .ref c.Lend) (by rfl) M_Lend rfl) (.own _))) pe_vstr (pe_vvar 2)) pa_vnil)))))))))))))
abbrev n_Call_ask_keeper : List Str := ["self", "at", "caller", "row", "answer", "word", "left", "is_old"]
theorem sc_Call_ask_keeper : FnScope n_Call_ask_keeper ["self", "at", "caller"] (defScope s_Call_ask_keeper) := ⟨rfl, rfl, rfl, by decide +kernel, rfl, by decide +kernel, by decide +kernel⟩
def b_Call_ask_keeper (c : CS) (g : Gp0) : VS := (vSeq (vIf (vTest (vIsN true (vBin gIx (vFld (okA c) "held" (vVar 0)) (vVar 1)))) (vSeq (vSetG (vgTup [(vgName 5), (vgName 6), (vgName 7)]) (vBin gIx (vFld (okA c) "held" (vVar 0)) (vVar 1)))
    (vSeq (vDrop (vMet gAppend (vFld (okA c) "given" (vVar 0)) (vCons (vTup (vCons (vVar 1) (vCons (vVar 5) (vCons (vVar 7) vNil)))) vNil)))
    (vRet (vVar 5)))) vNext)
    (vSeq (vSet 3 (vBin gIx (vFld (okA c) "rows" (vVar 0)) (vVar 1)))
    (vSeq (vSet 4 (vMethD (tb_ask c g) "ask" (vVar 0) (vCons (vBin gAdd (vVar 1) (vC (.int 1))) (vCons (vVar 2) vNil))))
    (vSeq (vIf (vAnd (vTest (vIsN true (vVar 4))) (vTest (vCall (f_may_store c) (vCons (vVar 3) (vCons (vVar 4) vNil))))) (vSeq (vSetI (vFld (okA c) "held" (vVar 0)) (vVar 1) (vTup (vCons (vVar 4) (vCons (vFld (okA c) "life" (vVar 3)) (vCons (vC (.bl false)) vNil)))))
    (vDrop (vMet gAppend (vFld (okA c) "stored" (vVar 0)) (vCons (vVar 4) vNil)))) vNext)
    (vRet (vVar 4))))))
theorem okv_Call_ask_keeper {f : Addr} {fd : FuncData} {kk : Nat} {g : Gp0} (F : Fun K "ask_keeper" "Call.ask_keeper" s_Call_ask_keeper f fd) (B : Bn mg) (D_may_store : DV P w K mg base "may_store" 1 2 (f_may_store c)) (O_stored : FldOk K "stored" (okA c)) (O_held : FldOk K "held" (okA c)) (O_life : FldOk K "life" (okA c)) (T_ask : ∀ C vf, tb_ask c g C = some vf → MVd P w K mg base kk "ask" 3 C vf) (O_rows : FldOk K "rows" (okA c)) (O_given : FldOk K "given" (okA c)) : FnOk P w K mg base (L2.CX P w) (kk + 1 + 1) f fd ["self", "at", "caller"] (SpV K 3 (vDef 8 (b_Call_ask_keeper c g))) :=
  okV F sc_Call_ask_keeper fun cdv A outer s H E hr => (pss_vcons (ps_vif (pt_vnotN (pe_vix (fun _ _ => rfl) (pe_vfld (okA c) O_held (pe_vvar 0)) (pe_vvar 1))) (pss_vcons (ps_vsetG (pe_vix (fun _ _ => rfl) (pe_vfld (okA c) O_held (pe_vvar 0)) (pe_vvar 1)) (pg_vtup rfl (pgs_vcons (pg_vname (i := 5) sc_Call_ask_keeper.nd rfl (Or.inl rfl)) (pgs_vcons (pg_vname (i := 6) sc_Call_ask_keeper.nd rfl (Or.inl rfl)) (pgs_vcons (pg_vname (i := 7) sc_Call_ask_keeper.nd rfl (Or.inl rfl)) pgs_vnil)))))
    (pss_vcons (ps_vexpr (pe_vappend (pe_vfld (okA c) O_given (pe_vvar 0)) (pa_vcons (pe_vtup (pa_vcons (pe_vvar 1) (pa_vcons (pe_vvar 5) (pa_vcons (pe_vvar 7) pa_vnil)))) pa_vnil)))
    (pss_vone (ps_vret (pe_vvar 5))))) pss_vnil)
    (pss_vcons (ps_vset (i := 3) sc_Call_ask_keeper.nd rfl (Or.inl rfl) (pe_vix (fun _ _ => rfl) (pe_vfld (okA c) O_rows (pe_vvar 0)) (pe_vvar 1)))
    (pss_vcons (ps_vset (i := 4) sc_Call_ask_keeper.nd rfl (Or.inl rfl) (pe_vmethD (takes_of rfl rfl rfl rfl) (fun C vf e => (T_ask C vf e).mv (hr.mono (by omega))) (by intro s ss m e; rw [(vcons_len (vcons_len vnil_len)) s ss m e]) (pe_vvar 0) (pa_vcons (pe_vadd (pe_vvar 1) pe_vint) (pa_vcons (pe_vvar 2) pa_vnil))))
    (pss_vcons (ps_vif (PW.pt (pw_vand (pt_vnotN (pe_vvar 4)) (pw_vand1 (pt_vval (pe_vcall D_may_store.g (hr.mono (by omega)) (by rfl) D_may_store.m D_may_store.kp D_may_store.b (takes_of rfl rfl rfl rfl) (pa_vcons (pe_vvar 3) (pa_vcons (pe_vvar 4) pa_vnil)) (vcons_len (vcons_len vnil_len))))))) (pss_vcons (ps_vsetI (pe_vfld (okA c) O_held (pe_vvar 0)) (pe_vvar 1) (pe_vtup (pa_vcons (pe_vvar 4) (pa_vcons (pe_vfld (okA c) O_life (pe_vvar 3)) (pa_vcons pe_vbl pa_vnil)))))
    (pss_vone (ps_vexpr (pe_vappend (pe_vfld (okA c) O_stored (pe_vvar 0)) (pa_vcons (pe_vvar 4) pa_vnil))))) pss_vnil)
    (pss_vone (ps_vret (pe_vvar 4)))))))
abbrev n_Call_ask_repeatedly : List Str := ["self", "at", "caller", "row", "answer", "asked"]
theorem sc_Call_ask_repeatedly : FnScope n_Call_ask_repeatedly ["self", "at", "caller"] (defScope s_Call_ask_repeatedly) := ⟨rfl, rfl, rfl, by decide +kernel, rfl, by decide +kernel, by decide +kernel⟩
def b_Call_ask_repeatedly (c : CS) (g : Gp0) : VS := (vSeq (vSet 3 (vBin gIx (vFld (okA c) "rows" (vVar 0)) (vVar 1)))
    (vSeq (vSet 4 (vMethD (tb_ask c g) "ask" (vVar 0) (vCons (vBin gAdd (vVar 1) (vC (.int 1))) (vCons (vVar 2) vNil))))
    (vSeq (vSet 5 (vC (.int 1)))
    (vSeq (vWh (vAnd (vTest (vBin dLt (vVar 5) (vFld (okA c) "many" (vVar 3)))) (vTest (vBin (gInFlat false) (vVar 4) (vKd (tabD_FAULTS_OF c) (vFld (okA c) "on" (vVar 3)))))) (vSeq (vSet 4 (vMethD (tb_ask c g) "ask" (vVar 0) (vCons (vBin gAdd (vVar 1) (vC (.int 1))) (vCons (vVar 2) vNil))))
    (vAug 5 (fun i j => i + j) (vC (.int 1)))) 1000)
    (vRet (vVar 4))))))
theorem okv_Call_ask_repeatedly {f : Addr} {fd : FuncData} {kk : Nat} {g : Gp0} (F : Fun K "ask_repeatedly" "Call.ask_repeatedly" s_Call_ask_repeatedly f fd) (B : Bn mg) (O_on : FldOk K "on" (okA c)) (KD_FAULTS_OF : KDv K w mg "FAULTS_OF" (tabD_FAULTS_OF c)) (O_many : FldOk K "many" (okA c)) (T_ask : ∀ C vf, tb_ask c g C = some vf → MVd P w K mg base kk "ask" 3 C vf) (O_rows : FldOk K "rows" (okA c)) : FnOk P w K mg base (L2.CX P w) (kk + 1 + 1) f fd ["self", "at", "caller"] (SpV K 3 (vDef 6 (b_Call_ask_repeatedly c g))) :=
  okV F sc_Call_ask_repeatedly fun cdv A outer s H E hr => (pss_vcons (ps_vset (i := 3) sc_Call_ask_repeatedly.nd rfl (Or.inl rfl) (pe_vix (fun _ _ => rfl) (pe_vfld (okA c) O_rows (pe_vvar 0)) (pe_vvar 1)))
    (pss_vcons (ps_vset (i := 4) sc_Call_ask_repeatedly.nd rfl (Or.inl rfl) (pe_vmethD (takes_of rfl rfl rfl rfl) (fun C vf e => (T_ask C vf e).mv (hr.mono (by omega))) (by intro s ss m e; rw [(vcons_len (vcons_len vnil_len)) s ss m e]) (pe_vvar 0) (pa_vcons (pe_vadd (pe_vvar 1) pe_vint) (pa_vcons (pe_vvar 2) pa_vnil))))
    (pss_vcons (ps_vset (i := 5) sc_Call_ask_repeatedly.nd rfl (Or.inl rfl) pe_vint)
    (pss_vcons (ps_vwhile 1000 (passes_of rfl) (PW.pt (pw_vand (pt_vlt (pe_vvar 5) (pe_vfld (okA c) O_many (pe_vvar 3))) (pw_vand1 (pt_vinF (by rfl) (pe_vvar 4) (pe_vkd KD_FAULTS_OF (by rfl) (pe_vfld (okA c) O_on (pe_vvar 3)) (fun _ _ => rfl)))))) (pss_vcons (ps_vset (i := 4) sc_Call_ask_repeatedly.nd rfl (Or.inl rfl) (pe_vmethD (takes_of rfl rfl rfl rfl) (fun C vf e => (T_ask C vf e).mv (hr.mono (by omega))) (by intro s ss m e; rw [(vcons_len (vcons_len vnil_len)) s ss m e]) (pe_vvar 0) (pa_vcons (pe_vadd (pe_vvar 1) pe_vint) (pa_vcons (pe_vvar 2) pa_vnil))))
    (pss_vone (ps_vaug (i := 5) sc_Call_ask_repeatedly.nd rfl (Or.inl rfl) pe_vint ip_add))))
    (pss_vone (ps_vret (pe_vvar 4)))))))
abbrev n_Call_ask_limited : List Str := ["self", "at", "caller", "answer"]
theorem sc_Call_ask_limited : FnScope n_Call_ask_limited ["self", "at", "caller"] (defScope s_Call_ask_limited) := ⟨rfl, rfl, rfl, by decide +kernel, rfl, by decide +kernel, by decide +kernel⟩
def b_Call_ask_limited (c : CS) (g : Gp0) : VS := (vSeq (vDrop (vMet gAppend (vFld (okA c) "limits" (vVar 0)) (vCons (vTup (vCons (vVar 1) (vCons (vFld (okA c) "tries" (vVar 0)) vNil))) vNil)))
    (vSeq (vSet 3 (vMethD (tb_ask c g) "ask" (vVar 0) (vCons (vBin gAdd (vVar 1) (vC (.int 1))) (vCons (vVar 2) vNil))))
    (vSeq (vDrop (vMet0 gPop (vFld (okA c) "limits" (vVar 0))))
    (vSeq (vIf (vTest (vBin dEq (vFld (okA c) "cut_by" (vVar 0)) (vVar 1))) (vSeq (vSetF (okA c) "cut_by" (vVar 0) (vC .non))
    (vRet (vC (.str "late")))) vNext)
    (vRet (vVar 3))))))
theorem okv_Call_ask_limited {f : Addr} {fd : FuncData} {kk : Nat} {g : Gp0} (F : Fun K "ask_limited" "Call.ask_limited" s_Call_ask_limited f fd) (B : Bn mg) (O_cut_by : FldOk K "cut_by" (okA c)) (O_limits : FldOk K "limits" (okA c)) (T_ask : ∀ C vf, tb_ask c g C = some vf → MVd P w K mg base kk "ask" 3 C vf) (O_tries : FldOk K "tries" (okA c)) : FnOk P w K mg base (L2.CX P w) (kk + 1 + 1) f fd ["self", "at", "caller"] (SpV K 3 (vDef 4 (b_Call_ask_limited c g))) :=
  okV F sc_Call_ask_limited fun cdv A outer s H E hr => (pss_vcons (ps_vexpr (pe_vappend (pe_vfld (okA c) O_limits (pe_vvar 0)) (pa_vcons (pe_vtup (pa_vcons (pe_vvar 1) (pa_vcons (pe_vfld (okA c) O_tries (pe_vvar 0)) pa_vnil))) pa_vnil)))
    (pss_vcons (ps_vset (i := 3) sc_Call_ask_limited.nd rfl (Or.inl rfl) (pe_vmethD (takes_of rfl rfl rfl rfl) (fun C vf e => (T_ask C vf e).mv (hr.mono (by omega))) (by intro s ss m e; rw [(vcons_len (vcons_len vnil_len)) s ss m e]) (pe_vvar 0) (pa_vcons (pe_vadd (pe_vvar 1) pe_vint) (pa_vcons (pe_vvar 2) pa_vnil))))
    (pss_vcons (ps_vexpr (pe_vpop (pe_vfld (okA c) O_limits (pe_vvar 0))))
    (pss_vcons (ps_vif (pt_veq hr.units (pe_vfld (okA c) O_cut_by (pe_vvar 0)) (pe_vvar 1)) (pss_vcons (ps_vsetF (okA c) O_cut_by (pe_vvar 0) pe_vnon)
    (pss_vone (ps_vret pe_vstr))) pss_vnil)
    (pss_vone (ps_vret (pe_vvar 3)))))))
abbrev n_Call_ask_softly : List Str := ["self", "at", "caller", "answer"]
theorem sc_Call_ask_softly : FnScope n_Call_ask_softly ["self", "at", "caller"] (defScope s_Call_ask_softly) := ⟨rfl, rfl, rfl, by decide +kernel, rfl, by decide +kernel, by decide +kernel⟩
def b_Call_ask_softly (c : CS) (g : Gp0) : VS := (vSeq (vSet 3 (vMethD (tb_ask c g) "ask" (vVar 0) (vCons (vBin gAdd (vVar 1) (vC (.int 1))) (vCons (vVar 2) vNil))))
    (vRet (vIfE (vTest (vBin (gInFlat false) (vVar 3) (vKd (tabD_FAULTS_OF c) (vFld (okA c) "on" (vBin gIx (vFld (okA c) "rows" (vVar 0)) (vVar 1)))))) (vC (.str "spare")) (vVar 3))))
theorem okv_Call_ask_softly {f : Addr} {fd : FuncData} {kk : Nat} {g : Gp0} (F : Fun K "ask_softly" "Call.ask_softly" s_Call_ask_softly f fd) (B : Bn mg) (O_on : FldOk K "on" (okA c)) (O_rows : FldOk K "rows" (okA c)) (KD_FAULTS_OF : KDv K w mg "FAULTS_OF" (tabD_FAULTS_OF c)) (T_ask : ∀ C vf, tb_ask c g C = some vf → MVd P w K mg base kk "ask" 3 C vf) : FnOk P w K mg base (L2.CX P w) (kk + 1 + 1) f fd ["self", "at", "caller"] (SpV K 3 (vDef 4 (b_Call_ask_softly c g))) :=
  okV F sc_Call_ask_softly fun cdv A outer s H E hr => (pss_vcons (ps_vset (i := 3) sc_Call_ask_softly.nd rfl (Or.inl rfl) (pe_vmethD (takes_of rfl rfl rfl rfl) (fun C vf e => (T_ask C vf e).mv (hr.mono (by omega))) (by intro s ss m e; rw [(vcons_len (vcons_len vnil_len)) s ss m e]) (pe_vvar 0) (pa_vcons (pe_vadd (pe_vvar 1) pe_vint) (pa_vcons (pe_vvar 2) pa_vnil))))
    (pss_vone (ps_vret (pe_vifE (pt_vinF (by rfl) (pe_vvar 3) (pe_vkd KD_FAULTS_OF (by rfl) (pe_vfld (okA c) O_on (pe_vix (fun _ _ => rfl) (pe_vfld (okA c) O_rows (pe_vvar 0)) (pe_vvar 1))) (fun _ _ => rfl))) pe_vstr (pe_vvar 3)))))
def fam0 (c : CS) : Nat → Gp0
  | 0 => ⟨fun _ _ => none, fun _ _ => none, fun _ _ => none, fun _ _ => none, fun _ _ => none⟩
  | n + 1 => ⟨vDef 4 (b_Call_ask c (fam0 c n)), vDef 8 (b_Call_ask_keeper c (fam0 c n)), vDef 6 (b_Call_ask_repeatedly c (fam0 c n)), vDef 4 (b_Call_ask_limited c (fam0 c n)), vDef 4 (b_Call_ask_softly c (fam0 c n))⟩
def f_Call_ask (c : CS) : VF := (fam0 c 16).Call_ask
def f_Call_ask_keeper (c : CS) : VF := (fam0 c 16).Call_ask_keeper
def f_Call_ask_repeatedly (c : CS) : VF := (fam0 c 16).Call_ask_repeatedly
def f_Call_ask_limited (c : CS) : VF := (fam0 c 16).Call_ask_limited
def f_Call_ask_softly (c : CS) : VF := (fam0 c 16).Call_ask_softly
abbrev n_Call_init : List Str := ["self", "rows", "standing", "caller", "outcomes", "row"]
theorem sc_Call_init : FnScope n_Call_init ["self", "rows", "standing", "caller", "outcomes"] (defScope s_Call_init) := ⟨rfl, rfl, rfl, by decide +kernel, rfl, by decide +kernel, by decide +kernel⟩
def b_Call_init (c : CS) : VS := (vSeq (vSetF (okA c) "rows" (vVar 0) (vVar 1))
    (vSeq (vSetF (okA c) "caller" (vVar 0) (vVar 3))
    (vSeq (vSetF (okA c) "outcomes" (vVar 0) (vVar 4))
    (vSeq (vSetF (okA c) "held" (vVar 0) (vOwn (vBN gListOf (vCons (vVar 2) vNil))))
    (vSeq (vSetF (okA c) "tries" (vVar 0) (vC (.int 0)))
    (vSeq (vSetF (okA c) "counts" (vVar 0) (vOwn (vComp [5] (vItems (vVar 1)) (vgName 5) vYes (vIfE (vTest (vIsi (tyTab (fun _ => false) (ct_Count c)) (vVar 5))) (vC (.int 0)) (vC .non)))))
    (vSeq (vSetF (okA c) "given" (vVar 0) (vOwn (vLst vNil)))
    (vSeq (vSetF (okA c) "stored" (vVar 0) (vOwn (vLst vNil)))
    (vSeq (vSetF (okA c) "limits" (vVar 0) (vOwn (vLst vNil)))
    (vSeq (vSetF (okA c) "cut_by" (vVar 0) (vC .non))
    (vSeq (vSetF (okA c) "answer" (vVar 0) (vMethD (tb_ask c (fam0 c 16)) "ask" (vVar 0) (vCons (vC (.int 0)) (vCons (vVar 3) vNil))))
    (vSetF (okA c) "behind" (vVar 0) (vB gTupOf (vCons (vFld (okA c) "held" (vVar 0)) vNil))))))))))))))
def f_Call_init (c : CS) : VF := vDef 6 (b_Call_init c)
theorem okv_Call_init {f : Addr} {fd : FuncData} (F : Fun K "__init__" "Call.__init__" s_Call_init f fd) (B : Bn mg) (O_behind : FldOk K "behind" (okA c)) (O_held : FldOk K "held" (okA c)) (O_answer : FldOk K "answer" (okA c)) (T_ask : ∀ C vf, tb_ask c (fam0 c 16) C = some vf → MVd P w K mg base 33 "ask" 3 C vf) (O_cut_by : FldOk K "cut_by" (okA c)) (O_limits : FldOk K "limits" (okA c)) (O_stored : FldOk K "stored" (okA c)) (O_given : FldOk K "given" (okA c)) (O_counts : FldOk K "counts" (okA c)) (I_Count : IsT K [.ref c.Count] (tyTab (fun _ => false) (ct_Count c))) (M_Count : mg "Count" = some (.ref c.Count)) (O_tries : FldOk K "tries" (okA c)) (O_outcomes : FldOk K "outcomes" (okA c)) (O_caller : FldOk K "caller" (okA c)) (O_rows : FldOk K "rows" (okA c)) : FnOk P w K mg base (L2.CX P w) 34 f fd ["self", "rows", "standing", "caller", "outcomes"] (SpV K 5 (f_Call_init c)) :=
  okV F sc_Call_init fun cdv A outer s H E hr => (pss_vcons (ps_vsetF (okA c) O_rows (pe_vvar 0) (pe_vvar 1))
    (pss_vcons (ps_vsetF (okA c) O_caller (pe_vvar 0) (pe_vvar 3))
    (pss_vcons (ps_vsetF (okA c) O_outcomes (pe_vvar 0) (pe_vvar 4))
    (pss_vcons (ps_vsetF (okA c) O_held (pe_vvar 0) (pe_vown (pe_vcallTyN cv_list call_list_of (by rfl) B.list_ (by decide +kernel) (pa_vcons (pe_vvar 2) pa_vnil))))
    (pss_vcons (ps_vsetF (okA c) O_tries (pe_vvar 0) pe_vint)
    (pss_vcons (ps_vsetF (okA c) O_counts (pe_vvar 0) (pe_vown (pe_vcomp (own := [("row", 5)]) (by decide) rfl sc_Call_init.nd (pi_vseq (pe_vvar 1)) (blkOk_by (N := n_Call_init) (sc := defScope s_Call_init) (by decide +kernel)) (fun _ _ _ _ _ => (pg_vname (i := 5) sc_Call_init.nd rfl (Or.inl rfl))) (fun _ _ _ _ _ => pts_vnil) (fun _ _ _ _ _ => (pe_vifE (pt_vval (pe_visi (tyTab (fun _ => false) (ct_Count c)) I_Count (by rfl) B.isinstance_ (pe_vvar 5) (pe_glob (v := .ref c.Count) (by rfl) M_Count rfl) (.own _))) pe_vint pe_vnon)))))
    (pss_vcons (ps_vsetF (okA c) O_given (pe_vvar 0) (pe_vown (pe_vlst pa_vnil)))
    (pss_vcons (ps_vsetF (okA c) O_stored (pe_vvar 0) (pe_vown (pe_vlst pa_vnil)))
    (pss_vcons (ps_vsetF (okA c) O_limits (pe_vvar 0) (pe_vown (pe_vlst pa_vnil)))
    (pss_vcons (ps_vsetF (okA c) O_cut_by (pe_vvar 0) pe_vnon)
    (pss_vcons (ps_vsetF (okA c) O_answer (pe_vvar 0) (pe_vmethD (takes_of rfl rfl rfl rfl) (fun C vf e => (T_ask C vf e).mv (hr.mono (by decide))) (by intro s ss m e; rw [(vcons_len (vcons_len vnil_len)) s ss m e]) (pe_vvar 0) (pa_vcons pe_vint (pa_vcons (pe_vvar 3) pa_vnil))))
    (pss_vone (ps_vsetF (okA c) O_behind (pe_vvar 0) (pe_vcallTy cv_tup call_tuple_of (by rfl) B.tuple_ (by decide +kernel) (pa_vcons (pe_vfld (okA c) O_held (pe_vvar 0)) pa_vnil)))))))))))))))
abbrev n_calls_of : List Str := ["stack", "standing", "caller", "worst", "faults", "outcomes", "many", "each"]
theorem sc_calls_of : FnScope n_calls_of ["stack", "standing", "caller"] (defScope s_calls_of) := ⟨rfl, rfl, rfl, by decide +kernel, rfl, by decide +kernel, by decide +kernel⟩
def b_calls_of (c : CS) : VS := (vSeq (vSet 3 (vInsD (vMake c.Call (f_Call_init c) (vCons (vFld (okA c) "rows" (vVar 0)) (vCons (vVar 1) (vCons (vVar 2) (vCons (vTup vNil) vNil)))))))
    (vSeq (vSet 4 (vBin gRepT (vTup (vCons (vC (.str "fault")) vNil)) (vFld (okA c) "tries" (vVar 3))))
    (vSeq (vSet 5 (vVal (vComp [6] (vRange (vFld (okA c) "tries" (vVar 3))) (vgName 6) vYes (vTup (vStar (vSliceV (vVar 4) vNoPart (vPart (vVar 6))) (vCons (vC (.str "ok")) vNil))))))
    (vRet (vVal (vComp [7] (vItems (vTup (vStar (vVar 5) (vCons (vVar 4) vNil)))) (vgName 7) vYes (vInsD (vMake c.Call (f_Call_init c) (vCons (vFld (okA c) "rows" (vVar 0)) (vCons (vVar 1) (vCons (vVar 2) (vCons (vVar 7) vNil))))))))))))
def f_calls_of (c : CS) : VF := vDef 8 (b_calls_of c)
theorem okv_calls_of {f : Addr} {fd : FuncData} (F : Fun K "calls_of" "calls_of" s_calls_of f fd) (B : Bn mg) (O_rows : FldOk K "rows" (okA c)) (MI_Call : MI P w K mg base 34 5 "Call" c.Call (f_Call_init c)) (O_tries : FldOk K "tries" (okA c)) : FnOk P w K mg base (L2.CX P w) 36 f fd ["stack", "standing", "caller"] (SpV K 3 (f_calls_of c)) :=
  okV F sc_calls_of fun cdv A outer s H E hr => (pss_vcons (ps_vset (i := 3) sc_calls_of.nd rfl (Or.inl rfl) (pe_vinsD (pe_vmake MI_Call.mks MI_Call.g (hr.mono (by decide)) (by rfl) MI_Call.m MI_Call.b (takes_of rfl rfl rfl rfl) (pa_vcons (pe_vfld (okA c) O_rows (pe_vvar 0)) (pa_vcons (pe_vvar 1) (pa_vcons (pe_vvar 2) (pa_vcons (pe_vtup pa_vnil) pa_vnil)))) (by intro s ss m e; rw [(vcons_len (vcons_len (vcons_len (vcons_len vnil_len)))) s ss m e]))))
    (pss_vcons (ps_vset (i := 4) sc_calls_of.nd rfl (Or.inr rfl) (pe_vrepT (pe_vtup (pa_vcons pe_vstr pa_vnil)) (pe_vfld (okA c) O_tries (pe_vvar 3))))
    (pss_vcons (ps_vsetLc (own := [("many", 6)]) (by decide) rfl sc_calls_of.nd (i := 5) rfl rfl (sw_true rfl rfl rfl (by decide +kernel)) (pi_vrange (by rfl) B.range_ (pe_vfld (okA c) O_tries (pe_vvar 3))) (blkOk_by (N := n_calls_of) (sc := defScope s_calls_of) (by decide +kernel)) (fun _ _ _ _ _ => (pg_vname (i := 6) sc_calls_of.nd rfl (Or.inl rfl))) (fun _ _ _ _ _ => pts_vnil) (fun _ _ _ _ _ => (pe_vtup (pa_vstar (pe_vsliceV (pe_vvar 4) po_vnone (po_vsome (pe_vvar 6))) (pa_vcons pe_vstr pa_vnil)))))
    (pss_vone (ps_vret (pe_vval (pe_vcomp (own := [("each", 7)]) (by decide) rfl sc_calls_of.nd (pi_vseq (pe_vtup (pa_vstar (pe_vvar 5) (pa_vcons (pe_vvar 4) pa_vnil)))) (blkOk_by (N := n_calls_of) (sc := defScope s_calls_of) (by decide +kernel)) (fun _ _ _ _ _ => (pg_vname (i := 7) sc_calls_of.nd rfl (Or.inl rfl))) (fun _ _ _ _ _ => pts_vnil) (fun _ _ _ _ _ => (pe_vinsD (pe_vmake MI_Call.mks MI_Call.g (hr.mono (by decide)) (by rfl) MI_Call.m MI_Call.b takes0 (pa_vcons (pe_vfld (okA c) O_rows (pe_vvar 0)) (pa_vcons (pe_vvar 1) (pa_vcons (pe_vvar 2) (pa_vcons (pe_vvar 7) pa_vnil)))) (by intro s ss m e; rw [(vcons_len (vcons_len (vcons_len (vcons_len vnil_len)))) s ss m e])))))))))))
abbrev n_calls_from : List Str := ["stack", "standing", "caller", "call"]
theorem sc_calls_from : FnScope n_calls_from ["stack", "standing"] (defScope s_calls_from) := ⟨rfl, rfl, rfl, by decide +kernel, rfl, by decide +kernel, by decide +kernel⟩
def b_calls_from (c : CS) : VS := (vRet (vVal (vComp2 [2, 3] [3] (vItems (vC (.tup [(.str "in"), (.str "out")]))) (vgName 2) vYes (vItems (vCall (f_calls_of c) (vCons (vVar 0) (vCons (vVar 1) (vCons (vVar 2) vNil))))) (vgName 3) vYes (vVar 3))))
def f_calls_from (c : CS) : VF := vDef 4 (b_calls_from c)
theorem okv_calls_from {f : Addr} {fd : FuncData} (F : Fun K "calls_from" "calls_from" s_calls_from f fd) (B : Bn mg) (D_calls_of : DV P w K mg base "calls_of" 36 3 (f_calls_of c)) (G_CALLERS : GV K mg "CALLERS" (.tup [(.str "in"), (.str "out")])) : FnOk P w K mg base (L2.CX P w) 37 f fd ["stack", "standing"] (SpV K 2 (f_calls_from c)) :=
  okV F sc_calls_from fun cdv A outer s H E hr => (pss_vone (ps_vret (pe_vval (pe_vcomp2 (own := [("caller", 2), ("call", 3)]) (vs1 := [3]) (by decide) (by decide) (by decide) rfl sc_calls_from.nd (pi_vseq (pe_vglob (by rfl) G_CALLERS.m G_CALLERS.r G_CALLERS.rp)) (blkOk_by (N := n_calls_from) (sc := defScope s_calls_from) (by decide +kernel)) (fun _ _ _ _ _ => (pg_vname (i := 2) sc_calls_from.nd rfl (Or.inl rfl))) (fun _ _ _ _ _ => pts_vnil) (fun _ _ _ _ _ => (pi_vseq (pe_vcall D_calls_of.g (hr.mono (by decide)) (by rfl) D_calls_of.m D_calls_of.kp D_calls_of.b takes0 (pa_vcons (pe_vvar 0) (pa_vcons (pe_vvar 1) (pa_vcons (pe_vvar 2) pa_vnil))) (vcons_len (vcons_len (vcons_len vnil_len)))))) (fun _ _ _ _ _ => (pg_vname (i := 3) sc_calls_from.nd rfl (Or.inl rfl))) (fun _ _ _ _ _ => pts_vnil) (fun _ _ _ _ _ => (pe_vvar 3))))))
abbrev n_aged : List Str := ["thing", "word", "left", "is_old"]
theorem sc_aged : FnScope n_aged ["thing"] (defScope s_aged) := ⟨rfl, rfl, rfl, by decide +kernel, rfl, by decide +kernel, by decide +kernel⟩
def b_aged (c : CS) : VS := (vSeq (vIf (vTest (vIsN false (vVar 0))) (vRet (vC .non)) vNext)
    (vSeq (vSetG (vgTup [(vgName 1), (vgName 2), (vgName 3)]) (vVar 0))
    (vSeq (vIf (vTest (vBin dEq (vVar 2) (vC (.int 0)))) (vRet (vC .non)) vNext)
    (vRet (vTup (vCons (vVar 1) (vCons (vIfE (vTest (vIsN false (vVar 2))) (vC .non) (vBin dSub (vVar 2) (vC (.int 1)))) (vCons (vC (.bl true)) vNil))))))))
def f_aged (c : CS) : VF := vDef 4 (b_aged c)
theorem okv_aged {f : Addr} {fd : FuncData} (F : Fun K "aged" "aged" s_aged f fd) (B : Bn mg) : FnOk P w K mg base (L2.CX P w) 1 f fd ["thing"] (SpV K 1 (f_aged c)) :=
  okV F sc_aged fun cdv A outer s H E hr => (pss_vcons (ps_vif (pt_visN (pe_vvar 0)) (pss_vone (ps_vret pe_vnon)) pss_vnil)
    (pss_vcons (ps_vsetG (pe_vvar 0) (pg_vtup rfl (pgs_vcons (pg_vname (i := 1) sc_aged.nd rfl (Or.inl rfl)) (pgs_vcons (pg_vname (i := 2) sc_aged.nd rfl (Or.inl rfl)) (pgs_vcons (pg_vname (i := 3) sc_aged.nd rfl (Or.inl rfl)) pgs_vnil)))))
    (pss_vcons (ps_vif (pt_veq hr.units (pe_vvar 2) pe_vint) (pss_vone (ps_vret pe_vnon)) pss_vnil)
    (pss_vone (ps_vret (pe_vtup (pa_vcons (pe_vvar 1) (pa_vcons (pe_vifE (pt_visN (pe_vvar 2)) pe_vnon (pe_vsub (pe_vvar 2) pe_vint)) (pa_vcons pe_vbl pa_vnil)))))))))
abbrev n_ticked : List Str := ["standing", "thing"]
theorem sc_ticked : FnScope n_ticked ["standing"] (defScope s_ticked) := ⟨rfl, rfl, rfl, by decide +kernel, rfl, by decide +kernel, by decide +kernel⟩
def b_ticked (c : CS) : VS := (vRet (vB gTupOf (vCons (vVal (vComp [1] (vItems (vVar 0)) (vgName 1) vYes (vCall (f_aged c) (vCons (vVar 1) vNil)))) vNil)))
def f_ticked (c : CS) : VF := vDef 2 (b_ticked c)
theorem okv_ticked {f : Addr} {fd : FuncData} (F : Fun K "ticked" "ticked" s_ticked f fd) (B : Bn mg) (D_aged : DV P w K mg base "aged" 1 1 (f_aged c)) : FnOk P w K mg base (L2.CX P w) 2 f fd ["standing"] (SpV K 1 (f_ticked c)) :=
  okV F sc_ticked fun cdv A outer s H E hr => (pss_vone (ps_vret (pe_vcallTy cv_tup call_tuple_of (by rfl) B.tuple_ (by decide +kernel) (pa_vcons (pe_vval (pe_vcomp (own := [("thing", 1)]) (by decide) rfl sc_ticked.nd (pi_vseq (pe_vvar 0)) (blkOk_by (N := n_ticked) (sc := defScope s_ticked) (by decide +kernel)) (fun _ _ _ _ _ => (pg_vname (i := 1) sc_ticked.nd rfl (Or.inl rfl))) (fun _ _ _ _ _ => pts_vnil) (fun _ _ _ _ _ => (pe_vcall D_aged.g (hr.mono (by decide)) (by rfl) D_aged.m D_aged.kp D_aged.b takes0 (pa_vcons (pe_vvar 1) pa_vnil) (vcons_len vnil_len))))) pa_vnil))))
abbrev n_event_of : List Str := ["call"]
theorem sc_event_of : FnScope n_event_of ["call"] (defScope s_event_of) := ⟨rfl, rfl, rfl, by decide +kernel, rfl, by decide +kernel, by decide +kernel⟩
def b_event_of (c : CS) : VS := (vRet (vM1 gJoin (vC (.str " ")) (vVal (vLst (vCons (vFld (okA c) "caller" (vVar 0)) (vStar (vFld (okA c) "outcomes" (vVar 0)) vNil))))))
def f_event_of (c : CS) : VF := vDef 1 (b_event_of c)
theorem okv_event_of {f : Addr} {fd : FuncData} (F : Fun K "event_of" "event_of" s_event_of f fd) (B : Bn mg) (O_outcomes : FldOk K "outcomes" (okA c)) (O_caller : FldOk K "caller" (okA c)) : FnOk P w K mg base (L2.CX P w) 1 f fd ["call"] (SpV K 1 (f_event_of c)) :=
  okV F sc_event_of fun cdv A outer s H E hr => (pss_vone (ps_vret (pe_vjoin pe_vstr (pe_vval (pe_vlst (pa_vcons (pe_vfld (okA c) O_caller (pe_vvar 0)) (pa_vstar (pe_vfld (okA c) O_outcomes (pe_vvar 0)) pa_vnil)))))))
abbrev n_events_from : List Str := ["stack", "standing", "calls", "call"]
theorem sc_events_from : FnScope n_events_from ["stack", "standing"] (defScope s_events_from) := ⟨rfl, rfl, rfl, by decide +kernel, rfl, by decide +kernel, by decide +kernel⟩
def b_events_from (c : CS) : VS := (vSeq (vSet 2 (vCall (f_calls_from c) (vCons (vVar 0) (vCons (vVar 1) vNil))))
    (vRet (vVal (vLst (vCons (vTup (vCons (vC (.str "tick")) (vCons (vCall (f_ticked c) (vCons (vVar 1) vNil)) vNil))) (vStar (vVal (vComp [3] (vItems (vVar 2)) (vgName 3) vYes (vTup (vCons (vCall (f_event_of c) (vCons (vVar 3) vNil)) (vCons (vFld (okA c) "behind" (vVar 3)) vNil))))) vNil))))))
def f_events_from (c : CS) : VF := vDef 4 (b_events_from c)
theorem okv_events_from {f : Addr} {fd : FuncData} (F : Fun K "events_from" "events_from" s_events_from f fd) (B : Bn mg) (D_event_of : DV P w K mg base "event_of" 1 1 (f_event_of c)) (D_ticked : DV P w K mg base "ticked" 2 1 (f_ticked c)) (D_calls_from : DV P w K mg base "calls_from" 37 2 (f_calls_from c)) (O_behind : FldOk K "behind" (okA c)) : FnOk P w K mg base (L2.CX P w) 38 f fd ["stack", "standing"] (SpV K 2 (f_events_from c)) :=
  okV F sc_events_from fun cdv A outer s H E hr => (pss_vcons (ps_vset (i := 2) sc_events_from.nd rfl (Or.inl rfl) (pe_vcall D_calls_from.g (hr.mono (by decide)) (by rfl) D_calls_from.m D_calls_from.kp D_calls_from.b (takes_of rfl rfl rfl rfl) (pa_vcons (pe_vvar 0) (pa_vcons (pe_vvar 1) pa_vnil)) (vcons_len (vcons_len vnil_len))))
    (pss_vone (ps_vret (pe_vval (pe_vlst (pa_vcons (pe_vtup (pa_vcons pe_vstr (pa_vcons (pe_vcall D_ticked.g (hr.mono (by decide)) (by rfl) D_ticked.m D_ticked.kp D_ticked.b (takes_of rfl rfl rfl rfl) (pa_vcons (pe_vvar 1) pa_vnil) (vcons_len vnil_len)) pa_vnil))) (pa_vstar (pe_vval (pe_vcomp (own := [("call", 3)]) (by decide) rfl sc_events_from.nd (pi_vseq (pe_vvar 2)) (blkOk_by (N := n_events_from) (sc := defScope s_events_from) (by decide +kernel)) (fun _ _ _ _ _ => (pg_vname (i := 3) sc_events_from.nd rfl (Or.inl rfl))) (fun _ _ _ _ _ => pts_vnil) (fun _ _ _ _ _ => (pe_vtup (pa_vcons (pe_vcall D_event_of.g (hr.mono (by decide)) (by rfl) D_event_of.m D_event_of.kp D_event_of.b takes0 (pa_vcons (pe_vvar 3) pa_vnil) (vcons_len vnil_len)) (pa_vcons (pe_vfld (okA c) O_behind (pe_vvar 3)) pa_vnil)))))) pa_vnil)))))))
abbrev n_reached_standings : List Str := ["stack"]
theorem sc_reached_standings : FnScope n_reached_standings ["stack"] (defScope s_reached_standings) := ⟨rfl, rfl, rfl, by decide +kernel, rfl, by decide +kernel, by decide +kernel⟩
def b_reached_standings (c : CS) : VS := (vRet (vLam1 (f_reached c) (vCall (f_events_from c) (vCons (vVar 0) (vCons (vVar 1) vNil))) (vCall (f_begun c) (vCons (vVar 0) vNil))))
def f_reached_standings (c : CS) : VF := vDef 1 (b_reached_standings c)
theorem okv_reached_standings {f cL PL : Addr} {fd : FuncData} (F : Fun K "reached_standings" "reached_standings" s_reached_standings f fd) (B : Bn mg) (D_begun : DV P w K mg base "begun" 1 1 (f_begun c)) (DF_reached : FL P w K mg base "reached" 1 2 1 (f_reached c)) (CI : CodeIs K f cL) (TBx : LamX.TabB base mg cL PL) (TBm : (PL, ((("reached_standings" : Str) ++ (".<locals>." : Str)) ++ ("<lambda>" : Str))) ∈ WW.tb) (TB1 : ∀ p ∈ WW.tb, p.1 = PL → p.2 = ((("reached_standings" : Str) ++ (".<locals>." : Str)) ++ ("<lambda>" : Str))) (L_D_events_from : ∀ g : Hp, (letI : WW := WW.at_ g; DV P w K mg base "events_from" 38 2 (f_events_from c))) : FnOk P w K mg base (L2.CX P w) 41 f fd ["stack"] (SpV K 1 (f_reached_standings c)) :=
  okVT F sc_reached_standings CI fun A outer s H E hr => (pss_vone (ps_vret (pe_vlam1 (ps := ["standing"]) (kb := 38) DF_reached ⟨TBx, rfl, TBm, TB1, lamP_by (sc := defScope s_reached_standings) (ps := ["standing"]) (by decide +kernel), (show ∀ p ∈ (["standing"] : List Str), p ∉ n_reached_standings by decide +kernel), rfl, (fun _ _ _ _ _ us h => match us, h with | [_], _ => rfl), (fun g A outer s H E f c' hr => (letI : WW := WW.at_ g; (pe_vcall (L_D_events_from g).g (hr.mono (by decide)) (by rfl) (L_D_events_from g).m (L_D_events_from g).kp (L_D_events_from g).b (takes_of rfl rfl rfl rfl) (pa_vcons (pe_vvar 0) (pa_vcons (pe_vvar 1) pa_vnil)) (vcons_len (vcons_len vnil_len)))))⟩ (hr.mono (by decide)) (hr.mono (by decide)) (takes_of rfl rfl rfl rfl) (pe_vcall D_begun.g (hr.mono (by decide)) (by rfl) D_begun.m D_begun.kp D_begun.b (takes_of rfl rfl rfl rfl) (pa_vcons (pe_vvar 0) pa_vnil) (vcons_len vnil_len)) (by rfl))))
abbrev n_breaks_calm : List Str := ["call"]
theorem sc_breaks_calm : FnScope n_breaks_calm ["call"] (defScope s_breaks_calm) := ⟨rfl, rfl, rfl, by decide +kernel, rfl, by decide +kernel, by decide +kernel⟩
def b_breaks_calm (c : CS) : VS := (vRet (vAndV (vBin dEq (vFld (okA c) "caller" (vVar 0)) (vC (.str "in"))) (vBin (gInFlat false) (vFld (okA c) "answer" (vVar 0)) (vC (.tup [(.str "fault"), (.str "late"), (.str "denied")])))))
def f_breaks_calm (c : CS) : VF := vDef 1 (b_breaks_calm c)
theorem okv_breaks_calm {f : Addr} {fd : FuncData} (F : Fun K "breaks_calm" "breaks_calm" s_breaks_calm f fd) (B : Bn mg) (O_answer : FldOk K "answer" (okA c)) (G_BAD : GV K mg "BAD" (.tup [(.str "fault"), (.str "late"), (.str "denied")])) (O_caller : FldOk K "caller" (okA c)) : FnOk P w K mg base (L2.CX P w) 1 f fd ["call"] (SpV K 1 (f_breaks_calm c)) :=
  okV F sc_breaks_calm fun cdv A outer s H E hr => (pss_vone (ps_vret (pe_vandV (pe_veq hr.units (pe_vfld (okA c) O_caller (pe_vvar 0)) pe_vstr) (pe_vone (pe_vinF (by rfl) (pe_vfld (okA c) O_answer (pe_vvar 0)) (pe_vglob (by rfl) G_BAD.m G_BAD.r G_BAD.rp))))))
abbrev n_breaks_fresh : List Str := ["call", "at", "word", "is_old"]
theorem sc_breaks_fresh : FnScope n_breaks_fresh ["call"] (defScope s_breaks_fresh) := ⟨rfl, rfl, rfl, by decide +kernel, rfl, by decide +kernel, by decide +kernel⟩
def b_breaks_fresh (c : CS) : VS := (vRet (vB (gBools (·.any id)) (vCons (vVal (vComp [1, 2, 3] (vItems (vFld (okA c) "given" (vVar 0))) (vgTup [(vgName 1), (vgName 2), (vgName 3)]) vYes (vVar 3))) vNil)))
def f_breaks_fresh (c : CS) : VF := vDef 4 (b_breaks_fresh c)
theorem okv_breaks_fresh {f : Addr} {fd : FuncData} (F : Fun K "breaks_fresh" "breaks_fresh" s_breaks_fresh f fd) (B : Bn mg) (O_given : FldOk K "given" (okA c)) : FnOk P w K mg base (L2.CX P w) 1 f fd ["call"] (SpV K 1 (f_breaks_fresh c)) :=
  okV F sc_breaks_fresh fun cdv A outer s H E hr => (pss_vone (ps_vret (pe_vcallB cv_any (cr_any rfl) (by rfl) B.any_ (by decide +kernel) (pa_vcons (pe_vval (pe_vcomp (own := [("at", 1), ("word", 2), ("is_old", 3)]) (by decide) rfl sc_breaks_fresh.nd (pi_vseq (pe_vfld (okA c) O_given (pe_vvar 0))) (blkOk_by (N := n_breaks_fresh) (sc := defScope s_breaks_fresh) (by decide +kernel)) (fun _ _ _ _ _ => (pg_vtup rfl (pgs_vcons (pg_vname (i := 1) sc_breaks_fresh.nd rfl (Or.inl rfl)) (pgs_vcons (pg_vname (i := 2) sc_breaks_fresh.nd rfl (Or.inl rfl)) (pgs_vcons (pg_vname (i := 3) sc_breaks_fresh.nd rfl (Or.inl rfl)) pgs_vnil))))) (fun _ _ _ _ _ => pts_vnil) (fun _ _ _ _ _ => (pe_vvar 3)))) pa_vnil))))
abbrev n_breaks_kept : List Str := ["call", "at", "word", "is_old"]
theorem sc_breaks_kept : FnScope n_breaks_kept ["call"] (defScope s_breaks_kept) := ⟨rfl, rfl, rfl, by decide +kernel, rfl, by decide +kernel, by decide +kernel⟩
def b_breaks_kept (c : CS) : VS := (vRet (vB (gBools (·.any id)) (vCons (vVal (vComp [1, 2, 3] (vItems (vFld (okA c) "given" (vVar 0))) (vgTup [(vgName 1), (vgName 2), (vgName 3)]) vYes (vBin (gInFlat false) (vVar 2) (vC (.tup [(.str "fault"), (.str "late"), (.str "denied")]))))) vNil)))
def f_breaks_kept (c : CS) : VF := vDef 4 (b_breaks_kept c)
theorem okv_breaks_kept {f : Addr} {fd : FuncData} (F : Fun K "breaks_kept" "breaks_kept" s_breaks_kept f fd) (B : Bn mg) (O_given : FldOk K "given" (okA c)) (G_BAD : GV K mg "BAD" (.tup [(.str "fault"), (.str "late"), (.str "denied")])) : FnOk P w K mg base (L2.CX P w) 1 f fd ["call"] (SpV K 1 (f_breaks_kept c)) :=
  okV F sc_breaks_kept fun cdv A outer s H E hr => (pss_vone (ps_vret (pe_vcallB cv_any (cr_any rfl) (by rfl) B.any_ (by decide +kernel) (pa_vcons (pe_vval (pe_vcomp (own := [("at", 1), ("word", 2), ("is_old", 3)]) (by decide) rfl sc_breaks_kept.nd (pi_vseq (pe_vfld (okA c) O_given (pe_vvar 0))) (blkOk_by (N := n_breaks_kept) (sc := defScope s_breaks_kept) (by decide +kernel)) (fun _ _ _ _ _ => (pg_vtup rfl (pgs_vcons (pg_vname (i := 1) sc_breaks_kept.nd rfl (Or.inl rfl)) (pgs_vcons (pg_vname (i := 2) sc_breaks_kept.nd rfl (Or.inl rfl)) (pgs_vcons (pg_vname (i := 3) sc_breaks_kept.nd rfl (Or.inl rfl)) pgs_vnil))))) (fun _ _ _ _ _ => pts_vnil) (fun _ _ _ _ _ => (pe_vinF (by rfl) (pe_vvar 2) (pe_vglob (by rfl) G_BAD.m G_BAD.r G_BAD.rp))))) pa_vnil))))
abbrev n_breaks_leave : List Str := ["call"]
theorem sc_breaks_leave : FnScope n_breaks_leave ["call"] (defScope s_breaks_leave) := ⟨rfl, rfl, rfl, by decide +kernel, rfl, by decide +kernel, by decide +kernel⟩
def b_breaks_leave (c : CS) : VS := (vRet (vAndV (vBin dEq (vFld (okA c) "caller" (vVar 0)) (vC (.str "out"))) (vOrV (vBin dGt (vFld (okA c) "tries" (vVar 0)) (vC (.int 0))) (vBin dEq (vFld (okA c) "answer" (vVar 0)) (vC (.str "ok"))))))
def f_breaks_leave (c : CS) : VF := vDef 1 (b_breaks_leave c)
theorem okv_breaks_leave {f : Addr} {fd : FuncData} (F : Fun K "breaks_leave" "breaks_leave" s_breaks_leave f fd) (B : Bn mg) (O_answer : FldOk K "answer" (okA c)) (O_tries : FldOk K "tries" (okA c)) (O_caller : FldOk K "caller" (okA c)) : FnOk P w K mg base (L2.CX P w) 1 f fd ["call"] (SpV K 1 (f_breaks_leave c)) :=
  okV F sc_breaks_leave fun cdv A outer s H E hr => (pss_vone (ps_vret (pe_vandV (pe_veq hr.units (pe_vfld (okA c) O_caller (pe_vvar 0)) pe_vstr) (pe_vone (pe_vorV (pe_vgt (pe_vfld (okA c) O_tries (pe_vvar 0)) pe_vint) (pe_vone (pe_veq hr.units (pe_vfld (okA c) O_answer (pe_vvar 0)) pe_vstr)))))))
abbrev n_breaks_once : List Str := ["call", "many"]
theorem sc_breaks_once : FnScope n_breaks_once ["call"] (defScope s_breaks_once) := ⟨rfl, rfl, rfl, by decide +kernel, rfl, by decide +kernel, by decide +kernel⟩
def b_breaks_once (c : CS) : VS := (vRet (vB (gBools (·.any id)) (vCons (vVal (vComp [1] (vItems (vFld (okA c) "counts" (vVar 0))) (vgName 1) (vTest (vIsN true (vVar 1))) (vBin dNe (vVar 1) (vC (.int 1))))) vNil)))
def f_breaks_once (c : CS) : VF := vDef 2 (b_breaks_once c)
theorem okv_breaks_once {f : Addr} {fd : FuncData} (F : Fun K "breaks_once" "breaks_once" s_breaks_once f fd) (B : Bn mg) (O_counts : FldOk K "counts" (okA c)) : FnOk P w K mg base (L2.CX P w) 1 f fd ["call"] (SpV K 1 (f_breaks_once c)) :=
  okV F sc_breaks_once fun cdv A outer s H E hr => (pss_vone (ps_vret (pe_vcallB cv_any (cr_any rfl) (by rfl) B.any_ (by decide +kernel) (pa_vcons (pe_vval (pe_vcomp (own := [("many", 1)]) (by decide) rfl sc_breaks_once.nd (pi_vseq (pe_vfld (okA c) O_counts (pe_vvar 0))) (blkOk_by (N := n_breaks_once) (sc := defScope s_breaks_once) (by decide +kernel)) (fun _ _ _ _ _ => (pg_vname (i := 1) sc_breaks_once.nd rfl (Or.inl rfl))) (fun _ _ _ _ _ => (pts_one (pt_vnotN (pe_vvar 1)))) (fun _ _ _ _ _ => (pe_vne hr.units (pe_vvar 1) pe_vint)))) pa_vnil))))
abbrev n_breaks_spare : List Str := ["call"]
theorem sc_breaks_spare : FnScope n_breaks_spare ["call"] (defScope s_breaks_spare) := ⟨rfl, rfl, rfl, by decide +kernel, rfl, by decide +kernel, by decide +kernel⟩
def b_breaks_spare (c : CS) : VS := (vRet (vBin (gInFlat false) (vC (.str "spare")) (vFld (okA c) "stored" (vVar 0))))
def f_breaks_spare (c : CS) : VF := vDef 1 (b_breaks_spare c)
theorem okv_breaks_spare {f : Addr} {fd : FuncData} (F : Fun K "breaks_spare" "breaks_spare" s_breaks_spare f fd) (B : Bn mg) (O_stored : FldOk K "stored" (okA c)) : FnOk P w K mg base (L2.CX P w) 1 f fd ["call"] (SpV K 1 (f_breaks_spare c)) :=
  okV F sc_breaks_spare fun cdv A outer s H E hr => (pss_vone (ps_vret (pe_vinF (by rfl) pe_vstr (pe_vfld (okA c) O_stored (pe_vvar 0)))))
abbrev n_breaks_tries : List Str := ["call", "many"]
theorem sc_breaks_tries : FnScope n_breaks_tries ["call"] (defScope s_breaks_tries) := ⟨rfl, rfl, rfl, by decide +kernel, rfl, by decide +kernel, by decide +kernel⟩
def b_breaks_tries (c : CS) : VS := (vRet (vB (gBools (·.any id)) (vCons (vVal (vComp [1] (vItems (vFld (okA c) "counts" (vVar 0))) (vgName 1) (vTest (vIsN true (vVar 1))) (vBin dNe (vVar 1) (vFld (okA c) "tries" (vVar 0))))) vNil)))
def f_breaks_tries (c : CS) : VF := vDef 2 (b_breaks_tries c)
theorem okv_breaks_tries {f : Addr} {fd : FuncData} (F : Fun K "breaks_tries" "breaks_tries" s_breaks_tries f fd) (B : Bn mg) (O_counts : FldOk K "counts" (okA c)) (O_tries : FldOk K "tries" (okA c)) : FnOk P w K mg base (L2.CX P w) 1 f fd ["call"] (SpV K 1 (f_breaks_tries c)) :=
  okV F sc_breaks_tries fun cdv A outer s H E hr => (pss_vone (ps_vret (pe_vcallB cv_any (cr_any rfl) (by rfl) B.any_ (by decide +kernel) (pa_vcons (pe_vval (pe_vcomp (own := [("many", 1)]) (by decide) rfl sc_breaks_tries.nd (pi_vseq (pe_vfld (okA c) O_counts (pe_vvar 0))) (blkOk_by (N := n_breaks_tries) (sc := defScope s_breaks_tries) (by decide +kernel)) (fun _ _ _ _ _ => (pg_vname (i := 1) sc_breaks_tries.nd rfl (Or.inl rfl))) (fun _ _ _ _ _ => (pts_one (pt_vnotN (pe_vvar 1)))) (fun _ _ _ _ _ => (pe_vne hr.units (pe_vvar 1) (pe_vfld (okA c) O_tries (pe_vvar 0)))))) pa_vnil))))
def tbF_BREAKS (c : CS) : Addr → Option VF := fun f => if f = c.fn_breaks_calm then some (f_breaks_calm c) else if f = c.fn_breaks_fresh then some (f_breaks_fresh c) else if f = c.fn_breaks_kept then some (f_breaks_kept c) else if f = c.fn_breaks_leave then some (f_breaks_leave c) else if f = c.fn_breaks_once then some (f_breaks_once c) else if f = c.fn_breaks_spare then some (f_breaks_spare c) else if f = c.fn_breaks_tries then some (f_breaks_tries c) else none
abbrev n_breaks : List Str := ["call", "wish", "is_broken"]
theorem sc_breaks : FnScope n_breaks ["call", "wish"] (defScope s_breaks) := ⟨rfl, rfl, rfl, by decide +kernel, rfl, by decide +kernel, by decide +kernel⟩
def b_breaks (c : CS) : VS := (vSeq (vIf (vTest (vKi false tabI_BOUNDS (vVar 1))) (vRet (vBin dGt (vFld (okA c) "tries" (vVar 0)) (vKd (tabD_BOUNDS c) (vVar 1)))) vNext)
    (vSeq (vSet 2 (vKd (tabD_BREAKS c) (vVar 1)))
    (vRet (vCallT 2 (tbF_BREAKS c) (vCons (vVar 0) vNil)))))
def f_breaks (c : CS) : VF := vDef 3 (b_breaks c)
theorem okv_breaks {f : Addr} {fd : FuncData} (F : Fun K "breaks" "breaks" s_breaks f fd) (B : Bn mg) (TF_BREAKS : ∀ f vf, tbF_BREAKS c f = some vf → DT P w K mg base 1 1 f vf) (KD_BREAKS : KDv K w mg "BREAKS" (tabD_BREAKS c)) (KI_BOUNDS : KDi K w mg "BOUNDS" tabI_BOUNDS) (O_tries : FldOk K "tries" (okA c)) (KD_BOUNDS : KDv K w mg "BOUNDS" (tabD_BOUNDS c)) : FnOk P w K mg base (L2.CX P w) 2 f fd ["call", "wish"] (SpV K 2 (f_breaks c)) :=
  okV F sc_breaks fun cdv A outer s H E hr => (pss_vcons (ps_vif (pt_vinKd KI_BOUNDS (by rfl) (by rfl) (pe_vvar 1)) (pss_vone (ps_vret (pe_vgt (pe_vfld (okA c) O_tries (pe_vvar 0)) (pe_vkd KD_BOUNDS (by rfl) (pe_vvar 1) (fun _ _ => rfl))))) pss_vnil)
    (pss_vcons (ps_vset (i := 2) sc_breaks.nd rfl (Or.inl rfl) (pe_vkd KD_BREAKS (by rfl) (pe_vvar 1) (fun _ _ => rfl)))
    (pss_vone (ps_vret (pe_vcallT (i := 2) TF_BREAKS (hr.mono (by decide)) rfl (by first | exact Or.inl rfl | exact Or.inr (Or.inl rfl)) (takes_of rfl rfl rfl rfl) (pa_vcons (pe_vvar 0) pa_vnil) (vcons_len vnil_len))))))
abbrev n_trail : List Str := ["found", "last", "labels", "label"]
theorem sc_trail : FnScope n_trail ["found", "last"] (defScope s_trail) := ⟨rfl, rfl, rfl, by decide +kernel, rfl, by decide +kernel, by decide +kernel⟩
def b_trail (c : CS) : VS := (vSeq (vSet 2 (vOwn (vLst vNil)))
    (vSeq (vWh (vTest (vIsN true (vBin gNGet (vVar 0) (vVar 1)))) (vSeq (vSetG (vgTup [(vgName 1), (vgName 3)]) (vBin gNGet (vVar 0) (vVar 1)))
    (vDrop (vMet gAppend (vVar 2) (vCons (vVar 3) vNil)))) 1000)
    (vRet (vVal (vRev (vVar 2))))))
def f_trail (c : CS) : VF := vDef 4 (b_trail c)
theorem okv_trail {f : Addr} {fd : FuncData} (F : Fun K "trail" "trail" s_trail f fd) (B : Bn mg) (HP : P = WW.p) (HW : w = WW.w) : FnOk P w K mg base (L2.CX P w) 1 f fd ["found", "last"] (SpV K 2 (f_trail c)) :=
  okV F sc_trail fun cdv A outer s H E hr => (pss_vcons (ps_vset (i := 2) sc_trail.nd rfl (Or.inl rfl) (pe_vown (pe_vlst pa_vnil)))
    (pss_vcons (ps_vwhile 1000 (passes_of rfl) (pt_vnotN (pe_vnget HP HW (u64 hr) (fun _ _ => rfl) (pe_vvar 0) (pe_vvar 1))) (pss_vcons (ps_vsetG (pe_vnget HP HW (u64 hr) (fun _ _ => rfl) (pe_vvar 0) (pe_vvar 1)) (pg_vtup rfl (pgs_vcons (pg_vname (i := 1) sc_trail.nd rfl (Or.inl rfl)) (pgs_vcons (pg_vname (i := 3) sc_trail.nd rfl (Or.inl rfl)) pgs_vnil))))
    (pss_vone (ps_vexpr (pe_vappend (pe_vvar 2) (pa_vcons (pe_vvar 3) pa_vnil))))))
    (pss_vone (ps_vret (pe_vval (pe_vrev (pe_vvar 2)))))))
abbrev n_breach : List Str := ["stack", "wish", "found", "standing", "call"]
theorem sc_breach : FnScope n_breach ["stack", "wish"] (defScope s_breach) := ⟨rfl, rfl, rfl, by decide +kernel, rfl, by decide +kernel, by decide +kernel⟩
def b_breach (c : CS) : VS := (vSeq (vDrop (vCall (f_check_wish c) (vCons (vVar 1) vNil)))
    (vSeq (vSet 2 (vCall (f_reached_standings c) (vCons (vVar 0) vNil)))
    (vSeq (vFrzD 2 (vFor (vKeysD (vVar 2)) (vgName 3) (vFor (vItems (vCall (f_calls_from c) (vCons (vVar 0) (vCons (vVar 3) vNil)))) (vgName 4) (vIf (vTest (vCall (f_breaks c) (vCons (vVar 4) (vCons (vVar 1) vNil)))) (vRet (vTup (vStar (vCall (f_trail c) (vCons (vVar 2) (vCons (vVar 3) vNil))) (vCons (vCall (f_event_of c) (vCons (vVar 4) vNil)) vNil)))) vNext))))
    (vRet (vC .non)))))
def f_breach (c : CS) : VF := vDef 5 (b_breach c)
theorem okv_breach {f : Addr} {fd : FuncData} (F : Fun K "breach" "breach" s_breach f fd) (B : Bn mg) (D_calls_from : DV P w K mg base "calls_from" 37 2 (f_calls_from c)) (D_breaks : DV P w K mg base "breaks" 2 2 (f_breaks c)) (D_event_of : DV P w K mg base "event_of" 1 1 (f_event_of c)) (D_trail : DV P w K mg base "trail" 1 2 (f_trail c)) (D_reached_standings : DV P w K mg base "reached_standings" 41 1 (f_reached_standings c)) (D_check_wish : DV P w K mg base "check_wish" 2 1 (f_check_wish c)) (HP : P = WW.p) (HW : w = WW.w) : FnOk P w K mg base (L2.CX P w) 42 f fd ["stack", "wish"] (SpV K 2 (f_breach c)) :=
  okV F sc_breach fun cdv A outer s H E hr => (pss_vcons (ps_vexpr (pe_vcall D_check_wish.g (hr.mono (by decide)) (by rfl) D_check_wish.m D_check_wish.kp D_check_wish.b (takes_of rfl rfl rfl rfl) (pa_vcons (pe_vvar 1) pa_vnil) (vcons_len vnil_len)))
    (pss_vcons (ps_vset (i := 2) sc_breach.nd rfl (Or.inl rfl) (pe_vcall D_reached_standings.g (hr.mono (by decide)) (by rfl) D_reached_standings.m D_reached_standings.kp D_reached_standings.b (takes_of rfl rfl rfl rfl) (pa_vcons (pe_vvar 0) pa_vnil) (vcons_len vnil_len)))
    (pss_vcons (ps_frzD 2 HP HW (ps_vfor (passes_of rfl) rfl (pi_vkeysD HP HW (pe_vvar 2)) (pg_vname (i := 3) sc_breach.nd rfl (Or.inl rfl)) (pss_vone (ps_vfor (passes_of rfl) rfl (pi_vseq (pe_vcall D_calls_from.g (hr.mono (by decide)) (by rfl) D_calls_from.m D_calls_from.kp D_calls_from.b (takes_of rfl rfl rfl rfl) (pa_vcons (pe_vvar 0) (pa_vcons (pe_vvar 3) pa_vnil)) (vcons_len (vcons_len vnil_len)))) (pg_vname (i := 4) sc_breach.nd rfl (Or.inl rfl)) (pss_vone (ps_vif (pt_vval (pe_vcall D_breaks.g (hr.mono (by decide)) (by rfl) D_breaks.m D_breaks.kp D_breaks.b (takes_of rfl rfl rfl rfl) (pa_vcons (pe_vvar 4) (pa_vcons (pe_vvar 1) pa_vnil)) (vcons_len (vcons_len vnil_len)))) (pss_vone (ps_vret (pe_vtup (pa_vstar (pe_vcall D_trail.g (hr.mono (by decide)) (by rfl) D_trail.m D_trail.kp D_trail.b (takes_of rfl rfl rfl rfl) (pa_vcons (pe_vvar 2) (pa_vcons (pe_vvar 3) pa_vnil)) (vcons_len (vcons_len vnil_len))) (pa_vcons (pe_vcall D_event_of.g (hr.mono (by decide)) (by rfl) D_event_of.m D_event_of.kp D_event_of.b (takes_of rfl rfl rfl rfl) (pa_vcons (pe_vvar 4) pa_vnil) (vcons_len vnil_len)) pa_vnil))))) pss_vnil))))))
    (pss_vone (ps_vret pe_vnon)))))
abbrev n_standings : List Str := ["stack"]
theorem sc_standings : FnScope n_standings ["stack"] (defScope s_standings) := ⟨rfl, rfl, rfl, by decide +kernel, rfl, by decide +kernel, by decide +kernel⟩
def b_standings (c : CS) : VS := (vRet (vB gTupD (vCons (vCall (f_reached_standings c) (vCons (vVar 0) vNil)) vNil)))
def f_standings (c : CS) : VF := vDef 1 (b_standings c)
theorem okv_standings {f : Addr} {fd : FuncData} (F : Fun K "standings" "standings" s_standings f fd) (B : Bn mg) (D_reached_standings : DV P w K mg base "reached_standings" 41 1 (f_reached_standings c)) (HP : P = WW.p) (HW : w = WW.w) : FnOk P w K mg base (L2.CX P w) 42 f fd ["stack"] (SpV K 1 (f_standings c)) :=
  okV F sc_standings fun cdv A outer s H E hr => (pss_vone (ps_vret (pe_vcallTy cv_tupD (call_tupDW HP HW rfl) (by rfl) B.tuple_ (by decide +kernel) (pa_vcons (pe_vcall D_reached_standings.g (hr.mono (by decide)) (by rfl) D_reached_standings.m D_reached_standings.kp D_reached_standings.b (takes_of rfl rfl rfl rfl) (pa_vcons (pe_vvar 0) pa_vnil) (vcons_len vnil_len)) pa_vnil))))
abbrev n_possible_calls : List Str := ["stack", "standing", "call"]
theorem sc_possible_calls : FnScope n_possible_calls ["stack"] (defScope s_possible_calls) := ⟨rfl, rfl, rfl, by decide +kernel, rfl, by decide +kernel, by decide +kernel⟩
def b_possible_calls (c : CS) : VS := (vRet (vVal (vComp2 [1, 2] [2] (vItems (vCall (f_standings c) (vCons (vVar 0) vNil))) (vgName 1) vYes (vItems (vCall (f_calls_from c) (vCons (vVar 0) (vCons (vVar 1) vNil)))) (vgName 2) vYes (vVar 2))))
def f_possible_calls (c : CS) : VF := vDef 3 (b_possible_calls c)
theorem okv_possible_calls {f : Addr} {fd : FuncData} (F : Fun K "possible_calls" "possible_calls" s_possible_calls f fd) (B : Bn mg) (D_standings : DV P w K mg base "standings" 42 1 (f_standings c)) (D_calls_from : DV P w K mg base "calls_from" 37 2 (f_calls_from c)) : FnOk P w K mg base (L2.CX P w) 43 f fd ["stack"] (SpV K 1 (f_possible_calls c)) :=
  okV F sc_possible_calls fun cdv A outer s H E hr => (pss_vone (ps_vret (pe_vval (pe_vcomp2 (own := [("standing", 1), ("call", 2)]) (vs1 := [2]) (by decide) (by decide) (by decide) rfl sc_possible_calls.nd (pi_vseq (pe_vcall D_standings.g (hr.mono (by decide)) (by rfl) D_standings.m D_standings.kp D_standings.b (takes_of rfl rfl rfl rfl) (pa_vcons (pe_vvar 0) pa_vnil) (vcons_len vnil_len))) (blkOk_by (N := n_possible_calls) (sc := defScope s_possible_calls) (by decide +kernel)) (fun _ _ _ _ _ => (pg_vname (i := 1) sc_possible_calls.nd rfl (Or.inl rfl))) (fun _ _ _ _ _ => pts_vnil) (fun _ _ _ _ _ => (pi_vseq (pe_vcall D_calls_from.g (hr.mono (by decide)) (by rfl) D_calls_from.m D_calls_from.kp D_calls_from.b takes0 (pa_vcons (pe_vvar 0) (pa_vcons (pe_vvar 1) pa_vnil)) (vcons_len (vcons_len vnil_len))))) (fun _ _ _ _ _ => (pg_vname (i := 2) sc_possible_calls.nd rfl (Or.inl rfl))) (fun _ _ _ _ _ => pts_vnil) (fun _ _ _ _ _ => (pe_vvar 2))))))
abbrev n_most_tries : List Str := ["stack", "call"]
theorem sc_most_tries : FnScope n_most_tries ["stack"] (defScope s_most_tries) := ⟨rfl, rfl, rfl, by decide +kernel, rfl, by decide +kernel, by decide +kernel⟩
def b_most_tries (c : CS) : VS := (vRet (vB gMaxL (vCons (vVal (vComp [1] (vItems (vCall (f_possible_calls c) (vCons (vVar 0) vNil))) (vgName 1) vYes (vFld (okA c) "tries" (vVar 1)))) vNil)))
def f_most_tries (c : CS) : VF := vDef 2 (b_most_tries c)
theorem okv_most_tries {f : Addr} {fd : FuncData} (F : Fun K "most_tries" "most_tries" s_most_tries f fd) (B : Bn mg) (D_possible_calls : DV P w K mg base "possible_calls" 43 1 (f_possible_calls c)) (O_tries : FldOk K "tries" (okA c)) : FnOk P w K mg base (L2.CX P w) 44 f fd ["stack"] (SpV K 1 (f_most_tries c)) :=
  okV F sc_most_tries fun cdv A outer s H E hr => (pss_vone (ps_vret (pe_vcallB cv_maxL (cr_max rfl) (by rfl) B.max_ (by decide +kernel) (pa_vcons (pe_vval (pe_vcomp (own := [("call", 1)]) (by decide) rfl sc_most_tries.nd (pi_vseq (pe_vcall D_possible_calls.g (hr.mono (by decide)) (by rfl) D_possible_calls.m D_possible_calls.kp D_possible_calls.b (takes_of rfl rfl rfl rfl) (pa_vcons (pe_vvar 0) pa_vnil) (vcons_len vnil_len))) (blkOk_by (N := n_most_tries) (sc := defScope s_most_tries) (by decide +kernel)) (fun _ _ _ _ _ => (pg_vname (i := 1) sc_most_tries.nd rfl (Or.inl rfl))) (fun _ _ _ _ _ => pts_vnil) (fun _ _ _ _ _ => (pe_vfld (okA c) O_tries (pe_vvar 1))))) pa_vnil))))
abbrev n_kept_of : List Str := ["stack", "wishes", "calls", "wish", "call"]
theorem sc_kept_of : FnScope n_kept_of ["stack", "wishes"] (defScope s_kept_of) := ⟨rfl, rfl, rfl, by decide +kernel, rfl, by decide +kernel, by decide +kernel⟩
def b_kept_of (c : CS) : VS := (vSeq (vSet 2 (vCall (f_possible_calls c) (vCons (vVar 0) vNil)))
    (vRet (vVal (vComp [3] (vItems (vVar 1)) (vgName 3) (vNot (vTest (vB (gBools (·.any id)) (vCons (vVal (vComp [4] (vItems (vVar 2)) (vgName 4) vYes (vCall (f_breaks c) (vCons (vVar 4) (vCons (vVar 3) vNil))))) vNil)))) (vVar 3)))))
def f_kept_of (c : CS) : VF := vDef 5 (b_kept_of c)
theorem okv_kept_of {f : Addr} {fd : FuncData} (F : Fun K "kept_of" "kept_of" s_kept_of f fd) (B : Bn mg) (D_breaks : DV P w K mg base "breaks" 2 2 (f_breaks c)) (D_possible_calls : DV P w K mg base "possible_calls" 43 1 (f_possible_calls c)) : FnOk P w K mg base (L2.CX P w) 44 f fd ["stack", "wishes"] (SpV K 2 (f_kept_of c)) :=
  okV F sc_kept_of fun cdv A outer s H E hr => (pss_vcons (ps_vset (i := 2) sc_kept_of.nd rfl (Or.inr rfl) (pe_vcall D_possible_calls.g (hr.mono (by decide)) (by rfl) D_possible_calls.m D_possible_calls.kp D_possible_calls.b (takes_of rfl rfl rfl rfl) (pa_vcons (pe_vvar 0) pa_vnil) (vcons_len vnil_len)))
    (pss_vone (ps_vret (pe_vval (pe_vcomp (own := [("wish", 3)]) (by decide) rfl sc_kept_of.nd (pi_vseq (pe_vvar 1)) (blkOk_by (N := n_kept_of) (sc := defScope s_kept_of) (by decide +kernel)) (fun _ _ _ _ _ => (pg_vname (i := 3) sc_kept_of.nd rfl (Or.inr rfl))) (fun _ _ _ _ _ => (pts_one (pt_vnot (pt_vval (pe_vcallB cv_any (cr_any rfl) (by rfl) B.any_ (by decide +kernel) (pa_vcons (pe_vval (pe_vcomp (own := [("call", 4)]) (by decide) rfl sc_kept_of.nd (pi_vseq (pe_vvar 2)) (blkOk_by (N := n_kept_of) (by rfl)) (fun _ _ _ _ _ => (pg_vname (i := 4) sc_kept_of.nd rfl (Or.inl rfl))) (fun _ _ _ _ _ => pts_vnil) (fun _ _ _ _ _ => (pe_vcall D_breaks.g (hr.mono (by decide)) (by rfl) D_breaks.m D_breaks.kp D_breaks.b takes0 (pa_vcons (pe_vvar 4) (pa_vcons (pe_vvar 3) pa_vnil)) (vcons_len (vcons_len vnil_len)))))) pa_vnil)))))) (fun _ _ _ _ _ => (pe_vvar 3)))))))
abbrev n_kept_wishes : List Str := ["stack"]
theorem sc_kept_wishes : FnScope n_kept_wishes ["stack"] (defScope s_kept_wishes) := ⟨rfl, rfl, rfl, by decide +kernel, rfl, by decide +kernel, by decide +kernel⟩
def b_kept_wishes (c : CS) : VS := (vRet (vB gTupOf (vCons (vCall (f_kept_of c) (vCons (vVar 0) (vCons (vC (.tup [(.str "calm"), (.str "fresh"), (.str "kept"), (.str "leave"), (.str "once"), (.str "spare"), (.str "tries")])) vNil))) vNil)))
def f_kept_wishes (c : CS) : VF := vDef 1 (b_kept_wishes c)
theorem okv_kept_wishes {f : Addr} {fd : FuncData} (F : Fun K "kept_wishes" "kept_wishes" s_kept_wishes f fd) (B : Bn mg) (D_kept_of : DV P w K mg base "kept_of" 44 2 (f_kept_of c)) (G_WISHES : GV K mg "WISHES" (.tup [(.str "calm"), (.str "fresh"), (.str "kept"), (.str "leave"), (.str "once"), (.str "spare"), (.str "tries")])) : FnOk P w K mg base (L2.CX P w) 45 f fd ["stack"] (SpV K 1 (f_kept_wishes c)) :=
  okV F sc_kept_wishes fun cdv A outer s H E hr => (pss_vone (ps_vret (pe_vcallTy cv_tup call_tuple_of (by rfl) B.tuple_ (by decide +kernel) (pa_vcons (pe_vcall D_kept_of.g (hr.mono (by decide)) (by rfl) D_kept_of.m D_kept_of.kp D_kept_of.b (takes_of rfl rfl rfl rfl) (pa_vcons (pe_vvar 0) (pa_vcons (pe_vglob (by rfl) G_WISHES.m G_WISHES.r G_WISHES.rp) pa_vnil)) (vcons_len (vcons_len vnil_len))) pa_vnil))))
abbrev n_law : List Str := ["_law_script", "_law_deal_here", "_law_rows", "_law_kept", "_law_most", "_law_size", "_law_wish", "_law_many", "_law_made", "_law_told"]
theorem sc_law : FnScope n_law ["_law_script"] (defScope s_law) := ⟨rfl, rfl, rfl, by decide +kernel, rfl, by decide +kernel, by decide +kernel⟩
def b_law (c : CS) : VS := (vSeq (vSet 1 (vCall (f_deal c) (vCons (vVar 0) (vCons (vC (.int 0)) vNil))))
    (vSeq (vFor (vItems (vCall (f_mixed c) (vCons (vVar 1) (vCons (vCall (f_cases c) vNil) vNil)))) (vgTup [(vgName 2), (vgName 3), (vgName 4), (vgName 5), (vgName 6), (vgName 7)]) (vSeq (vSet 8 (vCMeth c.Stack (f_Stack_read c) (vCons (vM1 gJoin (vC (.str "\n")) (vVar 2)) vNil)))
    (vSeq (vIf (vOr (vTest (vBin dNe (vVal (vBN gListOf (vCons (vCall (f_kept_wishes c) (vCons (vVar 8) vNil)) vNil))) (vVar 3))) (vOr (vTest (vBin dNe (vCall (f_most_tries c) (vCons (vVar 8) vNil)) (vVar 4))) (vTest (vBin dNe (vB gLen (vCons (vCall (f_standings c) (vCons (vVar 8) vNil)) vNil)) (vVar 5))))) (vRet (vC (.bl false))) vNext)
    (vSeq (vSet 9 (vCall (f_breach c) (vCons (vVar 8) (vCons (vVar 6) vNil))))
    (vIf (vOr (vTest (vBin dNe (vIsN false (vVar 9)) (vBin dEq (vVar 7) (vC (.int 0))))) (vAnd (vTest (vIsN true (vVar 9))) (vTest (vBin dNe (vB gLen (vCons (vVar 9) vNil)) (vVar 7))))) (vRet (vC (.bl false))) vNext)))))
    (vRet (vC (.bl true)))))
def f_law (c : CS) : VF := vDef 10 (b_law c)
theorem okv_law {f : Addr} {fd : FuncData} (F : Fun K "law" "law" s_law f fd) (B : Bn mg) (D_mixed : DV P w K mg base "_law_mixed" 2 2 (f_mixed c)) (D_cases : DV P w K mg base "_law_cases" 1 0 (f_cases c)) (D_breach : DV P w K mg base "breach" 42 2 (f_breach c)) (D_standings : DV P w K mg base "standings" 42 1 (f_standings c)) (D_most_tries : DV P w K mg base "most_tries" 44 1 (f_most_tries c)) (D_kept_wishes : DV P w K mg base "kept_wishes" 45 1 (f_kept_wishes c)) (D_deal : DV P w K mg base "_law_deal" 1 2 (f_deal c)) (C_Stack_read : CM P w K mg base 8 2 "read" c.Stack (f_Stack_read c)) (M_Stack : mg "Stack" = some (.ref c.Stack)) : FnOk P w K mg base (L2.CX P w) 46 f fd ["_law_script"] (SpV K 1 (f_law c)) :=
  okV F sc_law fun cdv A outer s H E hr => (pss_vcons (ps_vset (i := 1) sc_law.nd rfl (Or.inl rfl) (pe_vcall D_deal.g (hr.mono (by decide)) (by rfl) D_deal.m D_deal.kp D_deal.b (takes_of rfl rfl rfl rfl) (pa_vcons (pe_vvar 0) (pa_vcons pe_vint pa_vnil)) (vcons_len (vcons_len vnil_len))))
    (pss_vcons (ps_vfor (passes_of rfl) rfl (pi_vseq (pe_vcall D_mixed.g (hr.mono (by decide)) (by rfl) D_mixed.m D_mixed.kp D_mixed.b (takes_of rfl rfl rfl rfl) (pa_vcons (pe_vvar 1) (pa_vcons (pe_vcall0 D_cases.g (hr.mono (by decide)) (by rfl) D_cases.m D_cases.kp D_cases.b (takes_of rfl rfl rfl rfl)) pa_vnil)) (vcons_len (vcons_len vnil_len)))) (pg_vtup rfl (pgs_vcons (pg_vname (i := 2) sc_law.nd rfl (Or.inl rfl)) (pgs_vcons (pg_vname (i := 3) sc_law.nd rfl (Or.inl rfl)) (pgs_vcons (pg_vname (i := 4) sc_law.nd rfl (Or.inl rfl)) (pgs_vcons (pg_vname (i := 5) sc_law.nd rfl (Or.inl rfl)) (pgs_vcons (pg_vname (i := 6) sc_law.nd rfl (Or.inl rfl)) (pgs_vcons (pg_vname (i := 7) sc_law.nd rfl (Or.inl rfl)) pgs_vnil))))))) (pss_vcons (ps_vset (i := 8) sc_law.nd rfl (Or.inl rfl) (pe_vcmeth C_Stack_read (pe_glob (v := .ref c.Stack) (by rfl) M_Stack rfl) (hr.mono (by decide)) (takes_of rfl rfl rfl rfl) (pa_vcons (pe_vjoin pe_vstr (pe_vvar 2)) pa_vnil) (by intro s ss m e; rw [(vcons_len vnil_len) s ss m e])))
    (pss_vcons (ps_vif (PW.pt (pw_vor (pt_vne hr.units (pe_vval (pe_vcallTyN cv_list call_list_of (by rfl) B.list_ (by decide +kernel) (pa_vcons (pe_vcall D_kept_wishes.g (hr.mono (by decide)) (by rfl) D_kept_wishes.m D_kept_wishes.kp D_kept_wishes.b (takes_of rfl rfl rfl rfl) (pa_vcons (pe_vvar 8) pa_vnil) (vcons_len vnil_len)) pa_vnil))) (pe_vvar 3)) (pw_vor (pt_vne hr.units (pe_vcall D_most_tries.g (hr.mono (by decide)) (by rfl) D_most_tries.m D_most_tries.kp D_most_tries.b (takes_of rfl rfl rfl rfl) (pa_vcons (pe_vvar 8) pa_vnil) (vcons_len vnil_len)) (pe_vvar 4)) (pw_vor1 (pt_vne hr.units (pe_vcallB cv_len call_len1 (by rfl) B.len_ (by decide +kernel) (pa_vcons (pe_vcall D_standings.g (hr.mono (by decide)) (by rfl) D_standings.m D_standings.kp D_standings.b (takes_of rfl rfl rfl rfl) (pa_vcons (pe_vvar 8) pa_vnil) (vcons_len vnil_len)) pa_vnil)) (pe_vvar 5)))))) (pss_vone (ps_vret pe_vbl)) pss_vnil)
    (pss_vcons (ps_vset (i := 9) sc_law.nd rfl (Or.inl rfl) (pe_vcall D_breach.g (hr.mono (by decide)) (by rfl) D_breach.m D_breach.kp D_breach.b (takes_of rfl rfl rfl rfl) (pa_vcons (pe_vvar 8) (pa_vcons (pe_vvar 6) pa_vnil)) (vcons_len (vcons_len vnil_len))))
    (pss_vone (ps_vif (PW.pt (pw_vor (pt_vne hr.units (pe_visN (pe_vvar 9)) (pe_veq hr.units (pe_vvar 7) pe_vint)) (pw_vor1 (PW.pt (pw_vand (pt_vnotN (pe_vvar 9)) (pw_vand1 (pt_vne hr.units (pe_vcallB cv_len call_len1 (by rfl) B.len_ (by decide +kernel) (pa_vcons (pe_vvar 9) pa_vnil)) (pe_vvar 7)))))))) (pss_vone (ps_vret pe_vbl)) pss_vnil))))))
    (pss_vone (ps_vret pe_vbl))))
end
end Vw
end
section
/-! IndL: a def that is handed a function brings the same wherever the function stands. -/
namespace Vs
open PySem PySem.Spec PyProof.Rows L2
/-- the function stands at f -/
def up (i : Nat) (f : Addr) (ρ : List (Option Sl)) : List (Option Sl) := ρ.set i (some (.val (.cst (.ref f))))
theorem up_up {i : Nat} {f g : Addr} {ρ : List (Option Sl)} : up i f (up i g ρ) = up i f ρ := by
  unfold up
  rw [List.set_set]
theorem up_get {i j : Nat} {f : Addr} {ρ : List (Option Sl)} (h : i ≠ j) : (up i f ρ)[j]? = ρ[j]? := by
  unfold up
  rw [List.getElem?_set_ne h]
theorem up_set {i j : Nat} {f : Addr} {ρ : List (Option Sl)} {a : Option Sl} (h : i ≠ j) : (up i f ρ).set j a = up i f (ρ.set j a) := by
  unfold up
  rw [List.set_comm _ _ h]
def Ind {α : Type} (i : Nat) (e : Addr → S → M α) : Prop := ∀ (f : Addr) (ρ : List (Option Sl)) (m : List MO), up i 0 ρ = ρ → e f ⟨up i f ρ, m⟩ = e 0 ⟨ρ, m⟩
def mapR (i : Nat) (f : Addr) (r : R) : R := r.map fun p => (p.1, ⟨up i f p.2.ρ, p.2.m⟩)
def IndS (i : Nat) (b : Addr → VS) : Prop := ∀ (f : Addr) (ρ : List (Option Sl)) (m : List MO), up i 0 ρ = ρ → b f ⟨up i f ρ, m⟩ = mapR i f (b 0 ⟨ρ, m⟩) ∧ ∀ fl s', b 0 ⟨ρ, m⟩ = some (fl, s') → up i 0 s'.ρ = s'.ρ
def IndG (i : Nat) (g : VG) : Prop := ∀ (f : Addr) (t : T) (ρ : List (Option Sl)), up i 0 ρ = ρ → g t (up i f ρ) = (g t ρ).map (up i f) ∧ ∀ ρ', g t ρ = some ρ' → up i 0 ρ' = ρ'
section
variable {α β : Type} {i j : Nat}
theorem bM_congr {x y : M α} {k l : α → List MO → M β} (h : x = y) (h2 : ∀ a m, k a m = l a m) : bM x k = bM y l := by
  subst h
  unfold bM
  cases x with
  | none => rfl
  | some p =>
    obtain ⟨o, m⟩ := p
    cases o with
    | ok a => exact h2 a m
    | ex C fs => rfl
theorem ind_c {t : T} : Ind i (fun _ => vC t) := fun f ρ m h => rfl
theorem ind_var (h : i ≠ j) : Ind i (fun _ => vVar j) := fun f ρ m _ => by
  unfold vVar
  simp only [up_get h]
theorem ind_bin {g : Sl → Sl → List MO → M Sl} {a b : Addr → VE} (ha : Ind i a) (hb : Ind i b) : Ind i (fun f => vBin g (a f) (b f)) := fun f ρ m h =>
  bM_congr (ha f ρ m h) fun x m1 => bM_congr (hb f ρ m1 h) fun y m2 => rfl
theorem ind_b {g : List Sl → List MO → M Sl} {a : Addr → VA} (ha : Ind i a) : Ind i (fun f => vB g (a f)) := fun f ρ m h => bM_congr (ha f ρ m h) fun x m1 => rfl
theorem ind_nil : Ind i (fun _ => vNil) := fun f ρ m h => rfl
theorem ind_cons {a : Addr → VE} {b : Addr → VA} (ha : Ind i a) (hb : Ind i b) : Ind i (fun f => vCons (a f) (b f)) := fun f ρ m h =>
  bM_congr (ha f ρ m h) fun x m1 => bM_congr (hb f ρ m1 h) fun y m2 => rfl
theorem ind_lst {a : Addr → VA} (ha : Ind i a) : Ind i (fun f => vLst (a f)) := fun f ρ m h => bM_congr (ha f ρ m h) fun x m1 => rfl
theorem ind_own {a : Addr → VN} (ha : Ind i a) : Ind i (fun f => vOwn (a f)) := fun f ρ m h => bM_congr (ha f ρ m h) fun x m1 => rfl
theorem ind_val {a : Addr → VN} (ha : Ind i a) : Ind i (fun f => vVal (a f)) := fun f ρ m h => bM_congr (ha f ρ m h) fun x m1 => rfl
theorem ind_tup {a : Addr → VA} (ha : Ind i a) : Ind i (fun f => vTup (a f)) := fun f ρ m h => bM_congr (ha f ρ m h) fun x m1 => rfl
theorem ind_items {a : Addr → VE} (ha : Ind i a) : Ind i (fun f => vItems (a f)) := fun f ρ m h => bM_congr (ha f ρ m h) fun x m1 => rfl
theorem ind_test {a : Addr → VE} (ha : Ind i a) : Ind i (fun f => vTest (a f)) := fun f ρ m h => bM_congr (ha f ρ m h) fun x m1 => rfl
theorem ind_met {g : Sl → List Sl → List MO → M Sl} {o : Addr → VE} {a : Addr → VA} (ho : Ind i o) (ha : Ind i a) : Ind i (fun f => vMet g (o f) (a f)) := fun f ρ m h =>
  bM_congr (ho f ρ m h) fun x m1 => by
    split
    · exact bM_congr (ha f ρ m1 h) fun y m2 => rfl
    · rfl
theorem ind_callF {vf : VF} {a : Addr → VA} (ha : Ind i a) : Ind i (fun f => vCallF i f vf (a f)) := fun f ρ m h => by
  unfold vCallF
  have e0 : ρ[i]? = (up i 0 ρ)[i]? := by rw [h]
  by_cases hi : i < ρ.length
  · have e1 : (up i f ρ)[i]? = some (some (.val (.cst (.ref f)))) := by
      unfold up
      rw [List.getElem?_set_self hi]
    have e2 : ρ[i]? = some (some (.val (.cst (.ref 0)))) := by
      rw [e0]
      unfold up
      rw [List.getElem?_set_self hi]
    simp only [e1, e2, if_true]
    exact bM_congr (ha f ρ m h) fun y m2 => rfl
  · have e1 : (up i f ρ)[i]? = none := by
      unfold up
      rw [List.getElem?_eq_none]
      rw [List.length_set]
      omega
    have e2 : ρ[i]? = none := List.getElem?_eq_none (by omega)
    simp only [e1, e2]
/-! ### statements -/
theorem bS_ind {f : Addr} {ρ : List (Option Sl)} {x y : M α} {k l : α → List MO → R} (h : up i 0 ρ = ρ) (hx : x = y) (hk : ∀ a m, y = some (.ok a, m) → k a m = mapR i f (l a m) ∧ ∀ fl s', l a m = some (fl, s') → up i 0 s'.ρ = s'.ρ) :
    bS (up i f ρ) x k = mapR i f (bS ρ y l) ∧ ∀ fl s', bS ρ y l = some (fl, s') → up i 0 s'.ρ = s'.ρ := by
  subst hx
  cases x with
  | none => exact ⟨rfl, fun _ _ e => by cases e⟩
  | some p =>
    obtain ⟨o, m⟩ := p
    cases o with
    | ok a => exact hk a m rfl
    | ex C fs => exact ⟨rfl, fun _ _ e => by cases e; exact h⟩
theorem inds_set {a : Addr → VE} (hj : i ≠ j) (ha : Ind i a) : IndS i (fun f => vSet j (a f)) := fun f ρ m h =>
  bS_ind h (ha f ρ m h) fun x m1 _ => ⟨by
    show some (Fl.nx, (⟨(up i f ρ).set j (some x), m1⟩ : S)) = some (Fl.nx, ⟨up i f (ρ.set j (some x)), m1⟩)
    rw [up_set hj], fun fl s' e => by
    cases e
    show up i 0 (ρ.set j (some x)) = ρ.set j (some x)
    rw [← up_set hj, h]⟩
theorem inds_drop {a : Addr → VE} (ha : Ind i a) : IndS i (fun f => vDrop (a f)) := fun f ρ m h =>
  bS_ind h (ha f ρ m h) fun x m1 _ => ⟨rfl, fun fl s' e => by cases e; exact h⟩
theorem inds_ret {a : Addr → VE} (ha : Ind i a) : IndS i (fun f => vRet (a f)) := fun f ρ m h =>
  bS_ind h (ha f ρ m h) fun x m1 _ => ⟨rfl, fun fl s' e => by cases e; exact h⟩
theorem inds_next : IndS i (fun _ => vNext) := fun f ρ m h => ⟨rfl, fun fl s' e => by cases e; exact h⟩
theorem inds_if {c : Addr → VT} {a b : Addr → VS} (hc : Ind i c) (ha : IndS i a) (hb : IndS i b) : IndS i (fun f => vIf (c f) (a f) (b f)) := fun f ρ m h =>
  bS_ind h (hc f ρ m h) fun x m1 _ => by
    by_cases z : x = true
    · simp only [if_pos z]; exact ha f ρ m1 h
    · simp only [if_neg z]; exact hb f ρ m1 h
theorem inds_seq {a b : Addr → VS} (ha : IndS i a) (hb : IndS i b) : IndS i (fun f => vSeq (a f) (b f)) := fun f ρ m h => by
  obtain ⟨h1, h2⟩ := ha f ρ m h
  show (match a f ⟨up i f ρ, m⟩ with
    | none => none
    | some (.nx, s') => b f s'
    | some (fl, s') => some (fl, s')) = mapR i f (match a 0 ⟨ρ, m⟩ with
    | none => none
    | some (.nx, s') => b 0 s'
    | some (fl, s') => some (fl, s')) ∧ ∀ fl s', (match a 0 ⟨ρ, m⟩ with
    | none => none
    | some (.nx, s') => b 0 s'
    | some (fl, s') => some (fl, s')) = some (fl, s') → up i 0 s'.ρ = s'.ρ
  rw [h1]
  cases e : a 0 ⟨ρ, m⟩ with
  | none => exact ⟨rfl, fun _ _ z => by cases z⟩
  | some p =>
    obtain ⟨fl, ρ1, m1⟩ := p
    have k := h2 fl ⟨ρ1, m1⟩ e
    cases fl with
    | nx => exact hb f ρ1 m1 k
    | bk => exact ⟨rfl, fun _ _ z => by cases z; exact k⟩
    | ct => exact ⟨rfl, fun _ _ z => by cases z; exact k⟩
    | rt r => exact ⟨rfl, fun _ _ z => by cases z; exact k⟩
    | ex C fs => exact ⟨rfl, fun _ _ z => by cases z; exact k⟩
theorem inds_aug {fn : Int → Int → Int} {a : Addr → VE} (hj : i ≠ j) (ha : Ind i a) : IndS i (fun f => vAug j fn (a f)) := fun f ρ m h => by
  show (match (up i f ρ)[j]? with
    | some (some (.val (.int _))) => bS (up i f ρ) (a f ⟨up i f ρ, m⟩) (gAug j (up i f ρ) fn)
    | _ => none) = mapR i f (match ρ[j]? with
    | some (some (.val (.int _))) => bS ρ (a 0 ⟨ρ, m⟩) (gAug j ρ fn)
    | _ => none) ∧ ∀ fl s', (match ρ[j]? with
    | some (some (.val (.int _))) => bS ρ (a 0 ⟨ρ, m⟩) (gAug j ρ fn)
    | _ => none) = some (fl, s') → up i 0 s'.ρ = s'.ρ
  rw [up_get hj]
  split
  · rename_i n e
    refine bS_ind h (ha f ρ m h) fun x m1 _ => ?_
    unfold gAug
    rw [up_get hj, e]
    split
    · rename_i p q e1
      refine ⟨?_, fun fl s' z => ?_⟩
      · rw [up_set hj]; rfl
      · cases z
        show up i 0 (ρ.set j _) = ρ.set j _
        rw [← up_set hj, h]
    · exact ⟨rfl, fun _ _ z => by cases z⟩
  · exact ⟨rfl, fun _ _ z => by cases z⟩
theorem inds_nset {o k v : Addr → VE} (ho : Ind i o) (hk : Ind i k) (hv : Ind i v) : IndS i (fun f => vNSet (o f) (k f) (v f)) := fun f ρ m h =>
  bS_ind h (hv f ρ m h) fun x m1 _ => bS_ind h (ho f ρ m1 h) fun y m2 _ => bS_ind h (hk f ρ m2 h) fun z m3 _ => by
    unfold gNSet
    split
    · split
      · split
        · exact ⟨rfl, fun fl s' e => by cases e; exact h⟩
        · exact ⟨rfl, fun _ _ e => by cases e⟩
      · exact ⟨rfl, fun _ _ e => by cases e⟩
    · exact ⟨rfl, fun _ _ e => by cases e⟩
theorem indg_name (hj : i ≠ j) : IndG i (vgName j) := fun f t ρ h => ⟨by
  show some ((up i f ρ).set j _) = some (up i f (ρ.set j _))
  rw [up_set hj], fun ρ' e => by
  cases e
  rw [← up_set hj, h]⟩
theorem inds_loop {g : VG} {b : Addr → VS} (hg : IndG i g) (hb : IndS i b) : ∀ us : List T, IndS i (fun f => vLoop g (b f) us)
  | [], f, ρ, m, h => ⟨rfl, fun fl s' e => by cases e; exact h⟩
  | t :: us, f, ρ, m, h => by
    obtain ⟨g1, g2⟩ := hg f t ρ h
    simp only [vLoop]
    rw [g1]
    cases e : g t ρ with
    | none => exact ⟨rfl, fun _ _ z => by cases z⟩
    | some ρ1 =>
      have k1 := g2 ρ1 e
      obtain ⟨h1, h2⟩ := hb f ρ1 m k1
      simp only [Option.map_some, h1]
      cases e2 : b 0 ⟨ρ1, m⟩ with
      | none => exact ⟨rfl, fun _ _ z => by cases z⟩
      | some p =>
        obtain ⟨fl, ρ2, m2⟩ := p
        have k2 := h2 fl ⟨ρ2, m2⟩ e2
        cases fl with
        | nx => exact inds_loop hg hb us f ρ2 m2 k2
        | bk => exact ⟨rfl, fun _ _ z => by cases z; exact k2⟩
        | ct => exact inds_loop hg hb us f ρ2 m2 k2
        | rt r => exact ⟨rfl, fun _ _ z => by cases z; exact k2⟩
        | ex C fs => exact ⟨rfl, fun _ _ z => by cases z; exact k2⟩
theorem inds_for {it : Addr → VI} {g : VG} {b : Addr → VS} (hi : Ind i it) (hg : IndG i g) (hb : IndS i b) : IndS i (fun f => vFor (it f) g (b f)) := fun f ρ m h =>
  bS_ind h (hi f ρ m h) fun us m1 _ => inds_loop hg hb us f ρ m1 h
theorem inds_wh {c : Addr → VT} {b : Addr → VS} (hc : Ind i c) (hb : IndS i b) : ∀ n : Nat, IndS i (fun f => vWh (c f) (b f) n)
  | 0, f, ρ, m, h => ⟨rfl, fun _ _ z => by cases z⟩
  | n + 1, f, ρ, m, h => bS_ind h (hc f ρ m h) fun t m1 _ => by
    by_cases z : t = true
    · simp only [if_pos z]
      obtain ⟨h1, h2⟩ := hb f ρ m1 h
      rw [h1]
      cases e2 : b 0 ⟨ρ, m1⟩ with
      | none => exact ⟨rfl, fun _ _ z => by cases z⟩
      | some p =>
        obtain ⟨fl, ρ2, m2⟩ := p
        have k2 := h2 fl ⟨ρ2, m2⟩ e2
        cases fl with
        | nx => exact inds_wh hc hb n f ρ2 m2 k2
        | bk => exact ⟨rfl, fun _ _ z => by cases z; exact k2⟩
        | ct => exact inds_wh hc hb n f ρ2 m2 k2
        | rt r => exact ⟨rfl, fun _ _ z => by cases z; exact k2⟩
        | ex C fs => exact ⟨rfl, fun _ _ z => by cases z; exact k2⟩
    · simp only [if_neg z]
      exact ⟨rfl, fun fl s' e => by cases e; exact h⟩
end
/-- of a def whose last parameter is the function -/
theorem ind_def {n nl : Nat} {b : Addr → VS} (hb : IndS n b) (hn : n < nl) (f : Addr) (args : List Sl) (m : List MO) (hl : args.length = n) : vDef nl (b f) (args ++ [.val (.cst (.ref f))]) m = vDef nl (b 0) (args ++ [cst0]) m := by
  unfold vDef
  have e : ∀ g : Addr, (args ++ [Sl.val (.cst (.ref g))]).map some ++ List.replicate (nl - (args ++ [Sl.val (.cst (.ref g))]).length) none = up n g ((args ++ [cst0]).map some ++ List.replicate (nl - (args ++ [cst0]).length) none) := fun g => by
    unfold up
    rw [List.length_append, List.length_append, List.map_append, List.map_append, List.append_assoc, List.append_assoc, List.set_append_right _ _ (by rw [List.length_map]; omega), List.length_map, hl, Nat.sub_self]
    rfl
  have h0 : up n 0 ((args ++ [cst0]).map some ++ List.replicate (nl - (args ++ [cst0]).length) none) = (args ++ [cst0]).map some ++ List.replicate (nl - (args ++ [cst0]).length) none := (e 0).symm
  obtain ⟨h1, _⟩ := hb f _ m h0
  rw [e f, h1]
  cases b 0 ⟨(args ++ [cst0]).map some ++ List.replicate (nl - (args ++ [cst0]).length) none, m⟩ with
  | none => rfl
  | some p =>
    obtain ⟨fl, s'⟩ := p
    cases fl <;> rfl
theorem indg_all {i : Nat} : ∀ {gs : List VG}, (∀ g ∈ gs, IndG i g) → ∀ (f : Addr) (ts : List T) (ρ : List (Option Sl)), up i 0 ρ = ρ → vgAll gs ts (up i f ρ) = (vgAll gs ts ρ).map (up i f) ∧ ∀ ρ', vgAll gs ts ρ = some ρ' → up i 0 ρ' = ρ'
  | [], _, f, [], ρ, h => ⟨rfl, fun ρ' e => by cases e; exact h⟩
  | [], _, f, t :: ts, ρ, h => ⟨rfl, fun ρ' e => by cases e⟩
  | g :: gs, hg, f, [], ρ, h => ⟨rfl, fun ρ' e => by cases e⟩
  | g :: gs, hg, f, t :: ts, ρ, h => by
    obtain ⟨h1, h2⟩ := hg g (List.mem_cons_self ..) f t ρ h
    unfold vgAll
    rw [h1]
    cases e : g t ρ with
    | none => exact ⟨rfl, fun ρ' z => by cases z⟩
    | some ρ1 => exact indg_all (fun g hg' => hg g (List.mem_cons_of_mem _ hg')) f ts ρ1 (h2 ρ1 e)
theorem indg_tup {i : Nat} {gs : List VG} (hg : ∀ g ∈ gs, IndG i g) : IndG i (vgTup gs) := fun f t ρ h => by
  unfold vgTup
  split
  · exact indg_all hg f _ ρ h
  · exact ⟨rfl, fun ρ' e => by cases e⟩
/-! ### reached -/
def bReachL (fl : Addr) (vf : VF) : VS := (vSeq (vSet 2 (vBin gNDisp (vVar 0) (vC .non)))
    (vSeq (vSet 3 (vOwn (vLst (vCons (vVar 0) vNil))))
    (vSeq (vSet 4 (vC (.int 0)))
    (vSeq (vWh (vTest (vBin dLt (vVar 4) (vB gLen (vCons (vVar 3) vNil)))) (vSeq (vSet 5 (vBin gIx (vVar 3) (vVar 4)))
    (vSeq (vFor (vItems (vCallF 1 fl vf (vCons (vVar 5) vNil))) (vgTup [(vgName 6), (vgName 7)]) (vIf (vTest (vBin (gNIn true) (vVar 7) (vVar 2))) (vSeq (vNSet (vVar 2) (vVar 7) (vTup (vCons (vVar 5) (vCons (vVar 6) vNil))))
    (vDrop (vMet gAppend (vVar 3) (vCons (vVar 7) vNil)))) vNext))
    (vAug 4 (fun i j => i + j) (vC (.int 1))))) 1000)
    (vRet (vVar 2))))))
theorem ind_reachL (vf : VF) : IndS 1 (fun f => bReachL f vf) :=
  inds_seq (inds_set (by decide) (ind_bin (ind_var (by decide)) ind_c)) (inds_seq (inds_set (by decide) (ind_own (ind_lst (ind_cons (ind_var (by decide)) ind_nil)))) (inds_seq (inds_set (by decide) ind_c)
    (inds_seq (inds_wh (ind_test (ind_bin (ind_var (by decide)) (ind_b (ind_cons (ind_var (by decide)) ind_nil)))) (inds_seq (inds_set (by decide) (ind_bin (ind_var (by decide)) (ind_var (by decide))))
      (inds_seq (inds_for (ind_items (ind_callF (ind_cons (ind_var (by decide)) ind_nil))) (indg_tup fun g hg => by
        simp only [List.mem_cons, List.not_mem_nil, or_false] at hg
        rcases hg with rfl | rfl
        · exact indg_name (by decide)
        · exact indg_name (by decide))
        (inds_if (ind_test (ind_bin (ind_var (by decide)) (ind_var (by decide)))) (inds_seq (inds_nset (ind_var (by decide)) (ind_var (by decide)) (ind_tup (ind_cons (ind_var (by decide)) (ind_cons (ind_var (by decide)) ind_nil)))) (inds_drop (ind_met (ind_var (by decide)) (ind_cons (ind_var (by decide)) ind_nil)))) inds_next))
        (inds_aug (by decide) ind_c))) 1000) (inds_ret (ind_var (by decide))))))
theorem ind_reach (f : Addr) (vf : VF) (args : List Sl) (m : List MO) (hl : args.length + 1 = 2) : vDef 8 (bReachL f vf) (args ++ [.val (.cst (.ref f))]) m = vDef 8 (bReachL 0 vf) (args ++ [cst0]) m :=
  ind_def (b := fun f => bReachL f vf) (ind_reachL vf) (by decide) f args m (by omega)
end Vs
end
section
namespace Vw
open PySem PySem.Spec PyProof.Rows L2 Own Vs
open PySem.W (mg_of mg_none_of)
theorem pr_mk {K : PySem.W.Frag} {C p g : Addr} {f : Str} {rest : List Value} (h1 : PySem.W.findIn K (.ref C) f = some (some (.ref p))) (h2 : PySem.W.specialIn K (.ref p) "__get__" = some (some (.builtin "property.__get__"))) (h3 : PySem.W.takesIn K (.ref p) = some true) (h4 : PySem.W.recIn K p "property" = some (.ref g :: rest)) : PropOf K C f p g := ⟨h1, h2, h3, rest, h4⟩
def CodeTab (K : PySem.W.Frag) (c P : Addr) : Prop := ∃ (e : Value) (dd : Option Addr) (vs : Array Value) (sl : Array (Option Value)), K.lookup c = some ⟨e, dd, .fields vs, sl⟩ ∧ vs[11]? = some (.ref P)
theorem codeIs_mk {K : PySem.W.Frag} {f c : Addr} {oc : Value} {od : Option Addr} {fdd : FuncData} {osl : Array (Option Value)} (l : K.lookup f = some ⟨oc, od, .func fdd, osl⟩) (h : fdd.code = .ref c) : CodeIs K f c := ⟨oc, od, fdd, osl, l, h⟩
theorem codeTab_mk {K : PySem.W.Frag} {c P : Addr} {e : Value} {dd : Option Addr} {vs : Array Value} {sl : Array (Option Value)} (l : K.lookup c = some ⟨e, dd, .fields vs, sl⟩) (h : vs[11]? = some (.ref P)) : CodeTab K c P := ⟨e, dd, vs, sl, l, h⟩
theorem tbOne_of {l : List (Addr × Str)} {PL : Addr} {nm : Str} (h : ∀ p ∈ l, p.1 = PL → p.2 = nm) : ∀ p ∈ l, p.1 = PL → p.2 = nm := h
theorem all_mk {P : Program} {w : World} {K : PySem.W.Frag} {h : Heap} {mg : Str → Option Value} {fa : Addr} (X : K.In h) (G : h.Ns mainGlobals mg) (hfa : mg "law" = some (.ref fa))
    {C_WrapError C_InvalidRow C_InvalidStack C_InvalidText C_InvalidWish C_NoRow C_Row C_Keep C_Tries C_Limit C_Leave C_Soft C_Count C_Lend C_Call C_Stack K_LIVES K_KEPT_ANSWERS K_FAULTS K_MOST_ASKED K_MOST_TRIES K_BAD K_CALLERS K_WISHES KDBOUNDS KDBREAKS A_breaks_tries A_breaks_spare A_breaks_once A_breaks_leave A_breaks_kept A_breaks_fresh A_breaks_calm KDFAULTS_OF KVFAULTS_OF1 KVFAULTS_OF0 cL_reached_standings PL_reached_standings A_Keep_init A_Tries_init A_Limit_init A_Soft_init A_Call_init A_Stack_init A_Row_str A_Row_eq A_deal A_draw A_mixed A_cases A_is_sequence A_rows_of K0_Stack_init A_check_argument A_is_integer A_is_one_of A_every_row A_Keep_words A_Tries_words A_Limit_words A_Leave_words A_Soft_words A_Count_words A_Lend_words A_Row_read P_Row_read A_rows_in A_Stack_read P_Stack_read A_is_wish A_check_wish A_reached A_begun A_Call_make_try A_may_store A_Call_ask A_Call_ask_keeper A_Call_ask_repeatedly A_Call_ask_limited A_Call_ask_softly A_calls_of A_calls_from A_aged A_ticked A_event_of A_events_from A_reached_standings A_breaks A_trail A_breach A_standings A_possible_calls A_most_tries A_kept_of A_kept_wishes A_law : Addr} {fd_deal fd_draw fd_mixed fd_cases fd_is_sequence fd_rows_of fd_Stack_init fd_check_argument fd_is_integer fd_is_one_of fd_Keep_init fd_Tries_init fd_Limit_init fd_Soft_init fd_every_row fd_Keep_words fd_Tries_words fd_Limit_words fd_Leave_words fd_Soft_words fd_Count_words fd_Lend_words fd_Row_str fd_Row_read fd_rows_in fd_Stack_read fd_is_wish fd_check_wish fd_reached fd_begun fd_Call_make_try fd_may_store fd_Call_ask fd_Call_ask_keeper fd_Call_ask_repeatedly fd_Call_ask_limited fd_Call_ask_softly fd_Call_init fd_calls_of fd_calls_from fd_aged fd_ticked fd_event_of fd_events_from fd_reached_standings fd_breaks_calm fd_breaks_fresh fd_breaks_kept fd_breaks_leave fd_breaks_once fd_breaks_spare fd_breaks_tries fd_breaks fd_trail fd_breach fd_standings fd_possible_calls fd_most_tries fd_kept_of fd_kept_wishes fd_law : FuncData} {tk1_0 : Tok} {tk1_1 : Tok} {tk1_2 : Tok} {tk1_3 : Tok} {on1 : Nat} {oo1 : Option Addr} {os1 : Array (Option Value)} {tk2_0 : Tok} {tk2_1 : Tok} {on2 : Nat} {oo2 : Option Addr} {os2 : Array (Option Value)} {tk3_0 : Tok} {tk3_1 : Tok} {on3 : Nat} {oo3 : Option Addr} {os3 : Array (Option Value)} {tk4_0 : Tok} {tk4_1 : Tok} {tk4_2 : Tok} {on4 : Nat} {oo4 : Option Addr} {os4 : Array (Option Value)} {tk5_0 : Tok} {tk5_1 : Tok} {tk5_2 : Tok} {tk5_3 : Tok} {tk5_4 : Tok} {tk5_5 : Tok} {on5 : Nat} {oo5 : Option Addr} {os5 : Array (Option Value)} {tk6_0 : Tok} {tk6_1 : Tok} {tk6_2 : Tok} {on6 : Nat} {oo6 : Option Addr} {os6 : Array (Option Value)} {tk7_0 : Tok} {tk7_1 : Tok} {on7 : Nat} {oo7 : Option Addr} {os7 : Array (Option Value)} {tk8_0 : Tok} {tk8_1 : Tok} {tk8_2 : Tok} {tk8_3 : Tok} {tk8_4 : Tok} {tk8_5 : Tok} {tk8_6 : Tok} {on8 : Nat} {oo8 : Option Addr} {os8 : Array (Option Value)} {tv_BOUNDS_5 : Tok} {tv_BOUNDS_4 : Tok} {tv_BOUNDS_3 : Tok} {tv_BOUNDS_2 : Tok} {tv_BOUNDS_1 : Tok} {tv_BOUNDS_0 : Tok} {tk9_0 : Tok} {tk9_1 : Tok} {tk9_2 : Tok} {on9 : Nat} {oo9 : Option Addr} {os9 : Array (Option Value)} {tk10_0 : Tok} {tk10_1 : Tok} {on10 : Nat} {oo10 : Option Addr} {os10 : Array (Option Value)} {on11 : Nat} {oo11 : Option Addr} {os11 : Array (Option Value)}
    (a_WrapError : PySem.W.nsIn K mainGlobals "WrapError" = some (some (.ref C_WrapError)))
    (a_InvalidRow : PySem.W.nsIn K mainGlobals "InvalidRow" = some (some (.ref C_InvalidRow)))
    (a_InvalidStack : PySem.W.nsIn K mainGlobals "InvalidStack" = some (some (.ref C_InvalidStack)))
    (a_InvalidText : PySem.W.nsIn K mainGlobals "InvalidText" = some (some (.ref C_InvalidText)))
    (a_InvalidWish : PySem.W.nsIn K mainGlobals "InvalidWish" = some (some (.ref C_InvalidWish)))
    (a_NoRow : PySem.W.nsIn K mainGlobals "NoRow" = some (some (.ref C_NoRow)))
    (a_Row : PySem.W.nsIn K mainGlobals "Row" = some (some (.ref C_Row)))
    (a_Keep : PySem.W.nsIn K mainGlobals "Keep" = some (some (.ref C_Keep)))
    (a_Tries : PySem.W.nsIn K mainGlobals "Tries" = some (some (.ref C_Tries)))
    (a_Limit : PySem.W.nsIn K mainGlobals "Limit" = some (some (.ref C_Limit)))
    (a_Leave : PySem.W.nsIn K mainGlobals "Leave" = some (some (.ref C_Leave)))
    (a_Soft : PySem.W.nsIn K mainGlobals "Soft" = some (some (.ref C_Soft)))
    (a_Count : PySem.W.nsIn K mainGlobals "Count" = some (some (.ref C_Count)))
    (a_Lend : PySem.W.nsIn K mainGlobals "Lend" = some (some (.ref C_Lend)))
    (a_Call : PySem.W.nsIn K mainGlobals "Call" = some (some (.ref C_Call)))
    (a_Stack : PySem.W.nsIn K mainGlobals "Stack" = some (some (.ref C_Stack)))
    (z_int : PySem.W.nsIn K mainGlobals "int" = some none)
    (z_abs : PySem.W.nsIn K mainGlobals "abs" = some none)
    (z_len : PySem.W.nsIn K mainGlobals "len" = some none)
    (z_range : PySem.W.nsIn K mainGlobals "range" = some none)
    (z_list : PySem.W.nsIn K mainGlobals "list" = some none)
    (z_tuple : PySem.W.nsIn K mainGlobals "tuple" = some none)
    (z_str : PySem.W.nsIn K mainGlobals "str" = some none)
    (z_max : PySem.W.nsIn K mainGlobals "max" = some none)
    (z_min : PySem.W.nsIn K mainGlobals "min" = some none)
    (z_sorted : PySem.W.nsIn K mainGlobals "sorted" = some none)
    (z_enumerate : PySem.W.nsIn K mainGlobals "enumerate" = some none)
    (z_zip : PySem.W.nsIn K mainGlobals "zip" = some none)
    (z_isinstance : PySem.W.nsIn K mainGlobals "isinstance" = some none)
    (z_bool : PySem.W.nsIn K mainGlobals "bool" = some none)
    (z_any : PySem.W.nsIn K mainGlobals "any" = some none)
    (z_all : PySem.W.nsIn K mainGlobals "all" = some none)
    (z_sum : PySem.W.nsIn K mainGlobals "sum" = some none)
    (cl_Row : Cls K C_Row)
    (cl_Keep : Cls K C_Keep)
    (cl_Tries : Cls K C_Tries)
    (cl_Limit : Cls K C_Limit)
    (cl_Leave : Cls K C_Leave)
    (cl_Soft : Cls K C_Soft)
    (cl_Count : Cls K C_Count)
    (cl_Lend : Cls K C_Lend)
    (cl_Call : Cls K C_Call)
    (cl_Stack : Cls K C_Stack)
    (oc_n : PySem.W.specialIn K (.builtin "object.__class__") "__get__" = some (some (.builtin "getset_descriptor.__get__")))
    (oc_t : PySem.W.takesIn K (.builtin "object.__class__") = some true)
    (ca_Row : PySem.W.findIn K (.ref C_Row) "__class__" = some (some (.builtin "object.__class__")))
    (cm_Row : PySem.W.mroIn K C_Row (.type "object") = some true)
    (ca_Keep : PySem.W.findIn K (.ref C_Keep) "__class__" = some (some (.builtin "object.__class__")))
    (cm_Keep : PySem.W.mroIn K C_Keep (.type "object") = some true)
    (ca_Tries : PySem.W.findIn K (.ref C_Tries) "__class__" = some (some (.builtin "object.__class__")))
    (cm_Tries : PySem.W.mroIn K C_Tries (.type "object") = some true)
    (ca_Limit : PySem.W.findIn K (.ref C_Limit) "__class__" = some (some (.builtin "object.__class__")))
    (cm_Limit : PySem.W.mroIn K C_Limit (.type "object") = some true)
    (ca_Leave : PySem.W.findIn K (.ref C_Leave) "__class__" = some (some (.builtin "object.__class__")))
    (cm_Leave : PySem.W.mroIn K C_Leave (.type "object") = some true)
    (ca_Soft : PySem.W.findIn K (.ref C_Soft) "__class__" = some (some (.builtin "object.__class__")))
    (cm_Soft : PySem.W.mroIn K C_Soft (.type "object") = some true)
    (ca_Count : PySem.W.findIn K (.ref C_Count) "__class__" = some (some (.builtin "object.__class__")))
    (cm_Count : PySem.W.mroIn K C_Count (.type "object") = some true)
    (ca_Lend : PySem.W.findIn K (.ref C_Lend) "__class__" = some (some (.builtin "object.__class__")))
    (cm_Lend : PySem.W.mroIn K C_Lend (.type "object") = some true)
    (ca_Call : PySem.W.findIn K (.ref C_Call) "__class__" = some (some (.builtin "object.__class__")))
    (cm_Call : PySem.W.mroIn K C_Call (.type "object") = some true)
    (ca_Stack : PySem.W.findIn K (.ref C_Stack) "__class__" = some (some (.builtin "object.__class__")))
    (cm_Stack : PySem.W.mroIn K C_Stack (.type "object") = some true)
    (no_rows_Row : PySem.W.findIn K (.ref C_Row) "rows" = some none)
    (no_rows_Keep : PySem.W.findIn K (.ref C_Keep) "rows" = some none)
    (no_rows_Tries : PySem.W.findIn K (.ref C_Tries) "rows" = some none)
    (no_rows_Limit : PySem.W.findIn K (.ref C_Limit) "rows" = some none)
    (no_rows_Leave : PySem.W.findIn K (.ref C_Leave) "rows" = some none)
    (no_rows_Soft : PySem.W.findIn K (.ref C_Soft) "rows" = some none)
    (no_rows_Count : PySem.W.findIn K (.ref C_Count) "rows" = some none)
    (no_rows_Lend : PySem.W.findIn K (.ref C_Lend) "rows" = some none)
    (no_rows_Call : PySem.W.findIn K (.ref C_Call) "rows" = some none)
    (no_rows_Stack : PySem.W.findIn K (.ref C_Stack) "rows" = some none)
    (no_life_Row : PySem.W.findIn K (.ref C_Row) "life" = some none)
    (no_life_Keep : PySem.W.findIn K (.ref C_Keep) "life" = some none)
    (no_life_Tries : PySem.W.findIn K (.ref C_Tries) "life" = some none)
    (no_life_Limit : PySem.W.findIn K (.ref C_Limit) "life" = some none)
    (no_life_Leave : PySem.W.findIn K (.ref C_Leave) "life" = some none)
    (no_life_Soft : PySem.W.findIn K (.ref C_Soft) "life" = some none)
    (no_life_Count : PySem.W.findIn K (.ref C_Count) "life" = some none)
    (no_life_Lend : PySem.W.findIn K (.ref C_Lend) "life" = some none)
    (no_life_Call : PySem.W.findIn K (.ref C_Call) "life" = some none)
    (no_life_Stack : PySem.W.findIn K (.ref C_Stack) "life" = some none)
    (no_what_Row : PySem.W.findIn K (.ref C_Row) "what" = some none)
    (no_what_Keep : PySem.W.findIn K (.ref C_Keep) "what" = some none)
    (no_what_Tries : PySem.W.findIn K (.ref C_Tries) "what" = some none)
    (no_what_Limit : PySem.W.findIn K (.ref C_Limit) "what" = some none)
    (no_what_Leave : PySem.W.findIn K (.ref C_Leave) "what" = some none)
    (no_what_Soft : PySem.W.findIn K (.ref C_Soft) "what" = some none)
    (no_what_Count : PySem.W.findIn K (.ref C_Count) "what" = some none)
    (no_what_Lend : PySem.W.findIn K (.ref C_Lend) "what" = some none)
    (no_what_Call : PySem.W.findIn K (.ref C_Call) "what" = some none)
    (no_what_Stack : PySem.W.findIn K (.ref C_Stack) "what" = some none)
    (no_on_Row : PySem.W.findIn K (.ref C_Row) "on" = some none)
    (no_on_Keep : PySem.W.findIn K (.ref C_Keep) "on" = some none)
    (no_on_Tries : PySem.W.findIn K (.ref C_Tries) "on" = some none)
    (no_on_Limit : PySem.W.findIn K (.ref C_Limit) "on" = some none)
    (no_on_Leave : PySem.W.findIn K (.ref C_Leave) "on" = some none)
    (no_on_Soft : PySem.W.findIn K (.ref C_Soft) "on" = some none)
    (no_on_Count : PySem.W.findIn K (.ref C_Count) "on" = some none)
    (no_on_Lend : PySem.W.findIn K (.ref C_Lend) "on" = some none)
    (no_on_Call : PySem.W.findIn K (.ref C_Call) "on" = some none)
    (no_on_Stack : PySem.W.findIn K (.ref C_Stack) "on" = some none)
    (no_many_Row : PySem.W.findIn K (.ref C_Row) "many" = some none)
    (no_many_Keep : PySem.W.findIn K (.ref C_Keep) "many" = some none)
    (no_many_Tries : PySem.W.findIn K (.ref C_Tries) "many" = some none)
    (no_many_Limit : PySem.W.findIn K (.ref C_Limit) "many" = some none)
    (no_many_Leave : PySem.W.findIn K (.ref C_Leave) "many" = some none)
    (no_many_Soft : PySem.W.findIn K (.ref C_Soft) "many" = some none)
    (no_many_Count : PySem.W.findIn K (.ref C_Count) "many" = some none)
    (no_many_Lend : PySem.W.findIn K (.ref C_Lend) "many" = some none)
    (no_many_Call : PySem.W.findIn K (.ref C_Call) "many" = some none)
    (no_many_Stack : PySem.W.findIn K (.ref C_Stack) "many" = some none)
    (no_outcomes_Row : PySem.W.findIn K (.ref C_Row) "outcomes" = some none)
    (no_outcomes_Keep : PySem.W.findIn K (.ref C_Keep) "outcomes" = some none)
    (no_outcomes_Tries : PySem.W.findIn K (.ref C_Tries) "outcomes" = some none)
    (no_outcomes_Limit : PySem.W.findIn K (.ref C_Limit) "outcomes" = some none)
    (no_outcomes_Leave : PySem.W.findIn K (.ref C_Leave) "outcomes" = some none)
    (no_outcomes_Soft : PySem.W.findIn K (.ref C_Soft) "outcomes" = some none)
    (no_outcomes_Count : PySem.W.findIn K (.ref C_Count) "outcomes" = some none)
    (no_outcomes_Lend : PySem.W.findIn K (.ref C_Lend) "outcomes" = some none)
    (no_outcomes_Call : PySem.W.findIn K (.ref C_Call) "outcomes" = some none)
    (no_outcomes_Stack : PySem.W.findIn K (.ref C_Stack) "outcomes" = some none)
    (no_tries_Row : PySem.W.findIn K (.ref C_Row) "tries" = some none)
    (no_tries_Keep : PySem.W.findIn K (.ref C_Keep) "tries" = some none)
    (no_tries_Tries : PySem.W.findIn K (.ref C_Tries) "tries" = some none)
    (no_tries_Limit : PySem.W.findIn K (.ref C_Limit) "tries" = some none)
    (no_tries_Leave : PySem.W.findIn K (.ref C_Leave) "tries" = some none)
    (no_tries_Soft : PySem.W.findIn K (.ref C_Soft) "tries" = some none)
    (no_tries_Count : PySem.W.findIn K (.ref C_Count) "tries" = some none)
    (no_tries_Lend : PySem.W.findIn K (.ref C_Lend) "tries" = some none)
    (no_tries_Call : PySem.W.findIn K (.ref C_Call) "tries" = some none)
    (no_tries_Stack : PySem.W.findIn K (.ref C_Stack) "tries" = some none)
    (no_limits_Row : PySem.W.findIn K (.ref C_Row) "limits" = some none)
    (no_limits_Keep : PySem.W.findIn K (.ref C_Keep) "limits" = some none)
    (no_limits_Tries : PySem.W.findIn K (.ref C_Tries) "limits" = some none)
    (no_limits_Limit : PySem.W.findIn K (.ref C_Limit) "limits" = some none)
    (no_limits_Leave : PySem.W.findIn K (.ref C_Leave) "limits" = some none)
    (no_limits_Soft : PySem.W.findIn K (.ref C_Soft) "limits" = some none)
    (no_limits_Count : PySem.W.findIn K (.ref C_Count) "limits" = some none)
    (no_limits_Lend : PySem.W.findIn K (.ref C_Lend) "limits" = some none)
    (no_limits_Call : PySem.W.findIn K (.ref C_Call) "limits" = some none)
    (no_limits_Stack : PySem.W.findIn K (.ref C_Stack) "limits" = some none)
    (no_cut_by_Row : PySem.W.findIn K (.ref C_Row) "cut_by" = some none)
    (no_cut_by_Keep : PySem.W.findIn K (.ref C_Keep) "cut_by" = some none)
    (no_cut_by_Tries : PySem.W.findIn K (.ref C_Tries) "cut_by" = some none)
    (no_cut_by_Limit : PySem.W.findIn K (.ref C_Limit) "cut_by" = some none)
    (no_cut_by_Leave : PySem.W.findIn K (.ref C_Leave) "cut_by" = some none)
    (no_cut_by_Soft : PySem.W.findIn K (.ref C_Soft) "cut_by" = some none)
    (no_cut_by_Count : PySem.W.findIn K (.ref C_Count) "cut_by" = some none)
    (no_cut_by_Lend : PySem.W.findIn K (.ref C_Lend) "cut_by" = some none)
    (no_cut_by_Call : PySem.W.findIn K (.ref C_Call) "cut_by" = some none)
    (no_cut_by_Stack : PySem.W.findIn K (.ref C_Stack) "cut_by" = some none)
    (no_counts_Row : PySem.W.findIn K (.ref C_Row) "counts" = some none)
    (no_counts_Keep : PySem.W.findIn K (.ref C_Keep) "counts" = some none)
    (no_counts_Tries : PySem.W.findIn K (.ref C_Tries) "counts" = some none)
    (no_counts_Limit : PySem.W.findIn K (.ref C_Limit) "counts" = some none)
    (no_counts_Leave : PySem.W.findIn K (.ref C_Leave) "counts" = some none)
    (no_counts_Soft : PySem.W.findIn K (.ref C_Soft) "counts" = some none)
    (no_counts_Count : PySem.W.findIn K (.ref C_Count) "counts" = some none)
    (no_counts_Lend : PySem.W.findIn K (.ref C_Lend) "counts" = some none)
    (no_counts_Call : PySem.W.findIn K (.ref C_Call) "counts" = some none)
    (no_counts_Stack : PySem.W.findIn K (.ref C_Stack) "counts" = some none)
    (no_stored_Row : PySem.W.findIn K (.ref C_Row) "stored" = some none)
    (no_stored_Keep : PySem.W.findIn K (.ref C_Keep) "stored" = some none)
    (no_stored_Tries : PySem.W.findIn K (.ref C_Tries) "stored" = some none)
    (no_stored_Limit : PySem.W.findIn K (.ref C_Limit) "stored" = some none)
    (no_stored_Leave : PySem.W.findIn K (.ref C_Leave) "stored" = some none)
    (no_stored_Soft : PySem.W.findIn K (.ref C_Soft) "stored" = some none)
    (no_stored_Count : PySem.W.findIn K (.ref C_Count) "stored" = some none)
    (no_stored_Lend : PySem.W.findIn K (.ref C_Lend) "stored" = some none)
    (no_stored_Call : PySem.W.findIn K (.ref C_Call) "stored" = some none)
    (no_stored_Stack : PySem.W.findIn K (.ref C_Stack) "stored" = some none)
    (no_held_Row : PySem.W.findIn K (.ref C_Row) "held" = some none)
    (no_held_Keep : PySem.W.findIn K (.ref C_Keep) "held" = some none)
    (no_held_Tries : PySem.W.findIn K (.ref C_Tries) "held" = some none)
    (no_held_Limit : PySem.W.findIn K (.ref C_Limit) "held" = some none)
    (no_held_Leave : PySem.W.findIn K (.ref C_Leave) "held" = some none)
    (no_held_Soft : PySem.W.findIn K (.ref C_Soft) "held" = some none)
    (no_held_Count : PySem.W.findIn K (.ref C_Count) "held" = some none)
    (no_held_Lend : PySem.W.findIn K (.ref C_Lend) "held" = some none)
    (no_held_Call : PySem.W.findIn K (.ref C_Call) "held" = some none)
    (no_held_Stack : PySem.W.findIn K (.ref C_Stack) "held" = some none)
    (no_given_Row : PySem.W.findIn K (.ref C_Row) "given" = some none)
    (no_given_Keep : PySem.W.findIn K (.ref C_Keep) "given" = some none)
    (no_given_Tries : PySem.W.findIn K (.ref C_Tries) "given" = some none)
    (no_given_Limit : PySem.W.findIn K (.ref C_Limit) "given" = some none)
    (no_given_Leave : PySem.W.findIn K (.ref C_Leave) "given" = some none)
    (no_given_Soft : PySem.W.findIn K (.ref C_Soft) "given" = some none)
    (no_given_Count : PySem.W.findIn K (.ref C_Count) "given" = some none)
    (no_given_Lend : PySem.W.findIn K (.ref C_Lend) "given" = some none)
    (no_given_Call : PySem.W.findIn K (.ref C_Call) "given" = some none)
    (no_given_Stack : PySem.W.findIn K (.ref C_Stack) "given" = some none)
    (no_behind_Row : PySem.W.findIn K (.ref C_Row) "behind" = some none)
    (no_behind_Keep : PySem.W.findIn K (.ref C_Keep) "behind" = some none)
    (no_behind_Tries : PySem.W.findIn K (.ref C_Tries) "behind" = some none)
    (no_behind_Limit : PySem.W.findIn K (.ref C_Limit) "behind" = some none)
    (no_behind_Leave : PySem.W.findIn K (.ref C_Leave) "behind" = some none)
    (no_behind_Soft : PySem.W.findIn K (.ref C_Soft) "behind" = some none)
    (no_behind_Count : PySem.W.findIn K (.ref C_Count) "behind" = some none)
    (no_behind_Lend : PySem.W.findIn K (.ref C_Lend) "behind" = some none)
    (no_behind_Call : PySem.W.findIn K (.ref C_Call) "behind" = some none)
    (no_behind_Stack : PySem.W.findIn K (.ref C_Stack) "behind" = some none)
    (no_answer_Row : PySem.W.findIn K (.ref C_Row) "answer" = some none)
    (no_answer_Keep : PySem.W.findIn K (.ref C_Keep) "answer" = some none)
    (no_answer_Tries : PySem.W.findIn K (.ref C_Tries) "answer" = some none)
    (no_answer_Limit : PySem.W.findIn K (.ref C_Limit) "answer" = some none)
    (no_answer_Leave : PySem.W.findIn K (.ref C_Leave) "answer" = some none)
    (no_answer_Soft : PySem.W.findIn K (.ref C_Soft) "answer" = some none)
    (no_answer_Count : PySem.W.findIn K (.ref C_Count) "answer" = some none)
    (no_answer_Lend : PySem.W.findIn K (.ref C_Lend) "answer" = some none)
    (no_answer_Call : PySem.W.findIn K (.ref C_Call) "answer" = some none)
    (no_answer_Stack : PySem.W.findIn K (.ref C_Stack) "answer" = some none)
    (no_caller_Row : PySem.W.findIn K (.ref C_Row) "caller" = some none)
    (no_caller_Keep : PySem.W.findIn K (.ref C_Keep) "caller" = some none)
    (no_caller_Tries : PySem.W.findIn K (.ref C_Tries) "caller" = some none)
    (no_caller_Limit : PySem.W.findIn K (.ref C_Limit) "caller" = some none)
    (no_caller_Leave : PySem.W.findIn K (.ref C_Leave) "caller" = some none)
    (no_caller_Soft : PySem.W.findIn K (.ref C_Soft) "caller" = some none)
    (no_caller_Count : PySem.W.findIn K (.ref C_Count) "caller" = some none)
    (no_caller_Lend : PySem.W.findIn K (.ref C_Lend) "caller" = some none)
    (no_caller_Call : PySem.W.findIn K (.ref C_Call) "caller" = some none)
    (no_caller_Stack : PySem.W.findIn K (.ref C_Stack) "caller" = some none)
    (st_Row_list : PySem.W.subIn K (.ref C_Row) (.type "list") = some false)
    (st_Keep_list : PySem.W.subIn K (.ref C_Keep) (.type "list") = some false)
    (st_Tries_list : PySem.W.subIn K (.ref C_Tries) (.type "list") = some false)
    (st_Limit_list : PySem.W.subIn K (.ref C_Limit) (.type "list") = some false)
    (st_Leave_list : PySem.W.subIn K (.ref C_Leave) (.type "list") = some false)
    (st_Soft_list : PySem.W.subIn K (.ref C_Soft) (.type "list") = some false)
    (st_Count_list : PySem.W.subIn K (.ref C_Count) (.type "list") = some false)
    (st_Lend_list : PySem.W.subIn K (.ref C_Lend) (.type "list") = some false)
    (st_Call_list : PySem.W.subIn K (.ref C_Call) (.type "list") = some false)
    (st_Stack_list : PySem.W.subIn K (.ref C_Stack) (.type "list") = some false)
    (st_Row_tuple : PySem.W.subIn K (.ref C_Row) (.type "tuple") = some false)
    (st_Keep_tuple : PySem.W.subIn K (.ref C_Keep) (.type "tuple") = some false)
    (st_Tries_tuple : PySem.W.subIn K (.ref C_Tries) (.type "tuple") = some false)
    (st_Limit_tuple : PySem.W.subIn K (.ref C_Limit) (.type "tuple") = some false)
    (st_Leave_tuple : PySem.W.subIn K (.ref C_Leave) (.type "tuple") = some false)
    (st_Soft_tuple : PySem.W.subIn K (.ref C_Soft) (.type "tuple") = some false)
    (st_Count_tuple : PySem.W.subIn K (.ref C_Count) (.type "tuple") = some false)
    (st_Lend_tuple : PySem.W.subIn K (.ref C_Lend) (.type "tuple") = some false)
    (st_Call_tuple : PySem.W.subIn K (.ref C_Call) (.type "tuple") = some false)
    (st_Stack_tuple : PySem.W.subIn K (.ref C_Stack) (.type "tuple") = some false)
    (ic_Row : PySem.W.isClsIn K C_Row = true)
    (tc_Row : PySem.W.typeIn K (.ref C_Row) = some (.type "type"))
    (sb_NoneType_Row : PySem.W.subIn K (.type "NoneType") (.ref C_Row) = some false)
    (sb_bool_Row : PySem.W.subIn K (.type "bool") (.ref C_Row) = some false)
    (sb_int_Row : PySem.W.subIn K (.type "int") (.ref C_Row) = some false)
    (sb_str_Row : PySem.W.subIn K (.type "str") (.ref C_Row) = some false)
    (sb_list_Row : PySem.W.subIn K (.type "list") (.ref C_Row) = some false)
    (sb_tuple_Row : PySem.W.subIn K (.type "tuple") (.ref C_Row) = some false)
    (ss_Row_Row : PySem.W.subIn K (.ref C_Row) (.ref C_Row) = some true)
    (ss_Keep_Row : PySem.W.subIn K (.ref C_Keep) (.ref C_Row) = some true)
    (ss_Tries_Row : PySem.W.subIn K (.ref C_Tries) (.ref C_Row) = some true)
    (ss_Limit_Row : PySem.W.subIn K (.ref C_Limit) (.ref C_Row) = some true)
    (ss_Leave_Row : PySem.W.subIn K (.ref C_Leave) (.ref C_Row) = some true)
    (ss_Soft_Row : PySem.W.subIn K (.ref C_Soft) (.ref C_Row) = some true)
    (ss_Count_Row : PySem.W.subIn K (.ref C_Count) (.ref C_Row) = some true)
    (ss_Lend_Row : PySem.W.subIn K (.ref C_Lend) (.ref C_Row) = some true)
    (ss_Call_Row : PySem.W.subIn K (.ref C_Call) (.ref C_Row) = some false)
    (ne_Call_Row : C_Call ≠ C_Row)
    (ss_Stack_Row : PySem.W.subIn K (.ref C_Stack) (.ref C_Row) = some false)
    (ne_Stack_Row : C_Stack ≠ C_Row)
    (st_Row_bool : PySem.W.subIn K (.ref C_Row) (.type "bool") = some false)
    (st_Keep_bool : PySem.W.subIn K (.ref C_Keep) (.type "bool") = some false)
    (st_Tries_bool : PySem.W.subIn K (.ref C_Tries) (.type "bool") = some false)
    (st_Limit_bool : PySem.W.subIn K (.ref C_Limit) (.type "bool") = some false)
    (st_Leave_bool : PySem.W.subIn K (.ref C_Leave) (.type "bool") = some false)
    (st_Soft_bool : PySem.W.subIn K (.ref C_Soft) (.type "bool") = some false)
    (st_Count_bool : PySem.W.subIn K (.ref C_Count) (.type "bool") = some false)
    (st_Lend_bool : PySem.W.subIn K (.ref C_Lend) (.type "bool") = some false)
    (st_Call_bool : PySem.W.subIn K (.ref C_Call) (.type "bool") = some false)
    (st_Stack_bool : PySem.W.subIn K (.ref C_Stack) (.type "bool") = some false)
    (st_Row_int : PySem.W.subIn K (.ref C_Row) (.type "int") = some false)
    (st_Keep_int : PySem.W.subIn K (.ref C_Keep) (.type "int") = some false)
    (st_Tries_int : PySem.W.subIn K (.ref C_Tries) (.type "int") = some false)
    (st_Limit_int : PySem.W.subIn K (.ref C_Limit) (.type "int") = some false)
    (st_Leave_int : PySem.W.subIn K (.ref C_Leave) (.type "int") = some false)
    (st_Soft_int : PySem.W.subIn K (.ref C_Soft) (.type "int") = some false)
    (st_Count_int : PySem.W.subIn K (.ref C_Count) (.type "int") = some false)
    (st_Lend_int : PySem.W.subIn K (.ref C_Lend) (.type "int") = some false)
    (st_Call_int : PySem.W.subIn K (.ref C_Call) (.type "int") = some false)
    (st_Stack_int : PySem.W.subIn K (.ref C_Stack) (.type "int") = some false)
    (st_Row_str : PySem.W.subIn K (.ref C_Row) (.type "str") = some false)
    (st_Keep_str : PySem.W.subIn K (.ref C_Keep) (.type "str") = some false)
    (st_Tries_str : PySem.W.subIn K (.ref C_Tries) (.type "str") = some false)
    (st_Limit_str : PySem.W.subIn K (.ref C_Limit) (.type "str") = some false)
    (st_Leave_str : PySem.W.subIn K (.ref C_Leave) (.type "str") = some false)
    (st_Soft_str : PySem.W.subIn K (.ref C_Soft) (.type "str") = some false)
    (st_Count_str : PySem.W.subIn K (.ref C_Count) (.type "str") = some false)
    (st_Lend_str : PySem.W.subIn K (.ref C_Lend) (.type "str") = some false)
    (st_Call_str : PySem.W.subIn K (.ref C_Call) (.type "str") = some false)
    (st_Stack_str : PySem.W.subIn K (.ref C_Stack) (.type "str") = some false)
    (ic_Lend : PySem.W.isClsIn K C_Lend = true)
    (tc_Lend : PySem.W.typeIn K (.ref C_Lend) = some (.type "type"))
    (sb_NoneType_Lend : PySem.W.subIn K (.type "NoneType") (.ref C_Lend) = some false)
    (sb_bool_Lend : PySem.W.subIn K (.type "bool") (.ref C_Lend) = some false)
    (sb_int_Lend : PySem.W.subIn K (.type "int") (.ref C_Lend) = some false)
    (sb_str_Lend : PySem.W.subIn K (.type "str") (.ref C_Lend) = some false)
    (sb_list_Lend : PySem.W.subIn K (.type "list") (.ref C_Lend) = some false)
    (sb_tuple_Lend : PySem.W.subIn K (.type "tuple") (.ref C_Lend) = some false)
    (ss_Row_Lend : PySem.W.subIn K (.ref C_Row) (.ref C_Lend) = some false)
    (ne_Row_Lend : C_Row ≠ C_Lend)
    (ss_Keep_Lend : PySem.W.subIn K (.ref C_Keep) (.ref C_Lend) = some false)
    (ne_Keep_Lend : C_Keep ≠ C_Lend)
    (ss_Tries_Lend : PySem.W.subIn K (.ref C_Tries) (.ref C_Lend) = some false)
    (ne_Tries_Lend : C_Tries ≠ C_Lend)
    (ss_Limit_Lend : PySem.W.subIn K (.ref C_Limit) (.ref C_Lend) = some false)
    (ne_Limit_Lend : C_Limit ≠ C_Lend)
    (ss_Leave_Lend : PySem.W.subIn K (.ref C_Leave) (.ref C_Lend) = some false)
    (ne_Leave_Lend : C_Leave ≠ C_Lend)
    (ss_Soft_Lend : PySem.W.subIn K (.ref C_Soft) (.ref C_Lend) = some false)
    (ne_Soft_Lend : C_Soft ≠ C_Lend)
    (ss_Count_Lend : PySem.W.subIn K (.ref C_Count) (.ref C_Lend) = some false)
    (ne_Count_Lend : C_Count ≠ C_Lend)
    (ss_Lend_Lend : PySem.W.subIn K (.ref C_Lend) (.ref C_Lend) = some true)
    (ss_Call_Lend : PySem.W.subIn K (.ref C_Call) (.ref C_Lend) = some false)
    (ne_Call_Lend : C_Call ≠ C_Lend)
    (ss_Stack_Lend : PySem.W.subIn K (.ref C_Stack) (.ref C_Lend) = some false)
    (ne_Stack_Lend : C_Stack ≠ C_Lend)
    (ic_Count : PySem.W.isClsIn K C_Count = true)
    (tc_Count : PySem.W.typeIn K (.ref C_Count) = some (.type "type"))
    (sb_NoneType_Count : PySem.W.subIn K (.type "NoneType") (.ref C_Count) = some false)
    (sb_bool_Count : PySem.W.subIn K (.type "bool") (.ref C_Count) = some false)
    (sb_int_Count : PySem.W.subIn K (.type "int") (.ref C_Count) = some false)
    (sb_str_Count : PySem.W.subIn K (.type "str") (.ref C_Count) = some false)
    (sb_list_Count : PySem.W.subIn K (.type "list") (.ref C_Count) = some false)
    (sb_tuple_Count : PySem.W.subIn K (.type "tuple") (.ref C_Count) = some false)
    (ss_Row_Count : PySem.W.subIn K (.ref C_Row) (.ref C_Count) = some false)
    (ne_Row_Count : C_Row ≠ C_Count)
    (ss_Keep_Count : PySem.W.subIn K (.ref C_Keep) (.ref C_Count) = some false)
    (ne_Keep_Count : C_Keep ≠ C_Count)
    (ss_Tries_Count : PySem.W.subIn K (.ref C_Tries) (.ref C_Count) = some false)
    (ne_Tries_Count : C_Tries ≠ C_Count)
    (ss_Limit_Count : PySem.W.subIn K (.ref C_Limit) (.ref C_Count) = some false)
    (ne_Limit_Count : C_Limit ≠ C_Count)
    (ss_Leave_Count : PySem.W.subIn K (.ref C_Leave) (.ref C_Count) = some false)
    (ne_Leave_Count : C_Leave ≠ C_Count)
    (ss_Soft_Count : PySem.W.subIn K (.ref C_Soft) (.ref C_Count) = some false)
    (ne_Soft_Count : C_Soft ≠ C_Count)
    (ss_Count_Count : PySem.W.subIn K (.ref C_Count) (.ref C_Count) = some true)
    (ss_Lend_Count : PySem.W.subIn K (.ref C_Lend) (.ref C_Count) = some false)
    (ne_Lend_Count : C_Lend ≠ C_Count)
    (ss_Call_Count : PySem.W.subIn K (.ref C_Call) (.ref C_Count) = some false)
    (ne_Call_Count : C_Call ≠ C_Count)
    (ss_Stack_Count : PySem.W.subIn K (.ref C_Stack) (.ref C_Count) = some false)
    (ne_Stack_Count : C_Stack ≠ C_Count)
    (ic_Leave : PySem.W.isClsIn K C_Leave = true)
    (tc_Leave : PySem.W.typeIn K (.ref C_Leave) = some (.type "type"))
    (sb_NoneType_Leave : PySem.W.subIn K (.type "NoneType") (.ref C_Leave) = some false)
    (sb_bool_Leave : PySem.W.subIn K (.type "bool") (.ref C_Leave) = some false)
    (sb_int_Leave : PySem.W.subIn K (.type "int") (.ref C_Leave) = some false)
    (sb_str_Leave : PySem.W.subIn K (.type "str") (.ref C_Leave) = some false)
    (sb_list_Leave : PySem.W.subIn K (.type "list") (.ref C_Leave) = some false)
    (sb_tuple_Leave : PySem.W.subIn K (.type "tuple") (.ref C_Leave) = some false)
    (ss_Row_Leave : PySem.W.subIn K (.ref C_Row) (.ref C_Leave) = some false)
    (ne_Row_Leave : C_Row ≠ C_Leave)
    (ss_Keep_Leave : PySem.W.subIn K (.ref C_Keep) (.ref C_Leave) = some false)
    (ne_Keep_Leave : C_Keep ≠ C_Leave)
    (ss_Tries_Leave : PySem.W.subIn K (.ref C_Tries) (.ref C_Leave) = some false)
    (ne_Tries_Leave : C_Tries ≠ C_Leave)
    (ss_Limit_Leave : PySem.W.subIn K (.ref C_Limit) (.ref C_Leave) = some false)
    (ne_Limit_Leave : C_Limit ≠ C_Leave)
    (ss_Leave_Leave : PySem.W.subIn K (.ref C_Leave) (.ref C_Leave) = some true)
    (ss_Soft_Leave : PySem.W.subIn K (.ref C_Soft) (.ref C_Leave) = some false)
    (ne_Soft_Leave : C_Soft ≠ C_Leave)
    (ss_Count_Leave : PySem.W.subIn K (.ref C_Count) (.ref C_Leave) = some false)
    (ne_Count_Leave : C_Count ≠ C_Leave)
    (ss_Lend_Leave : PySem.W.subIn K (.ref C_Lend) (.ref C_Leave) = some false)
    (ne_Lend_Leave : C_Lend ≠ C_Leave)
    (ss_Call_Leave : PySem.W.subIn K (.ref C_Call) (.ref C_Leave) = some false)
    (ne_Call_Leave : C_Call ≠ C_Leave)
    (ss_Stack_Leave : PySem.W.subIn K (.ref C_Stack) (.ref C_Leave) = some false)
    (ne_Stack_Leave : C_Stack ≠ C_Leave)
    (ic_Soft : PySem.W.isClsIn K C_Soft = true)
    (tc_Soft : PySem.W.typeIn K (.ref C_Soft) = some (.type "type"))
    (sb_NoneType_Soft : PySem.W.subIn K (.type "NoneType") (.ref C_Soft) = some false)
    (sb_bool_Soft : PySem.W.subIn K (.type "bool") (.ref C_Soft) = some false)
    (sb_int_Soft : PySem.W.subIn K (.type "int") (.ref C_Soft) = some false)
    (sb_str_Soft : PySem.W.subIn K (.type "str") (.ref C_Soft) = some false)
    (sb_list_Soft : PySem.W.subIn K (.type "list") (.ref C_Soft) = some false)
    (sb_tuple_Soft : PySem.W.subIn K (.type "tuple") (.ref C_Soft) = some false)
    (ss_Row_Soft : PySem.W.subIn K (.ref C_Row) (.ref C_Soft) = some false)
    (ne_Row_Soft : C_Row ≠ C_Soft)
    (ss_Keep_Soft : PySem.W.subIn K (.ref C_Keep) (.ref C_Soft) = some false)
    (ne_Keep_Soft : C_Keep ≠ C_Soft)
    (ss_Tries_Soft : PySem.W.subIn K (.ref C_Tries) (.ref C_Soft) = some false)
    (ne_Tries_Soft : C_Tries ≠ C_Soft)
    (ss_Limit_Soft : PySem.W.subIn K (.ref C_Limit) (.ref C_Soft) = some false)
    (ne_Limit_Soft : C_Limit ≠ C_Soft)
    (ss_Leave_Soft : PySem.W.subIn K (.ref C_Leave) (.ref C_Soft) = some false)
    (ne_Leave_Soft : C_Leave ≠ C_Soft)
    (ss_Soft_Soft : PySem.W.subIn K (.ref C_Soft) (.ref C_Soft) = some true)
    (ss_Count_Soft : PySem.W.subIn K (.ref C_Count) (.ref C_Soft) = some false)
    (ne_Count_Soft : C_Count ≠ C_Soft)
    (ss_Lend_Soft : PySem.W.subIn K (.ref C_Lend) (.ref C_Soft) = some false)
    (ne_Lend_Soft : C_Lend ≠ C_Soft)
    (ss_Call_Soft : PySem.W.subIn K (.ref C_Call) (.ref C_Soft) = some false)
    (ne_Call_Soft : C_Call ≠ C_Soft)
    (ss_Stack_Soft : PySem.W.subIn K (.ref C_Stack) (.ref C_Soft) = some false)
    (ne_Stack_Soft : C_Stack ≠ C_Soft)
    (ic_Limit : PySem.W.isClsIn K C_Limit = true)
    (tc_Limit : PySem.W.typeIn K (.ref C_Limit) = some (.type "type"))
    (sb_NoneType_Limit : PySem.W.subIn K (.type "NoneType") (.ref C_Limit) = some false)
    (sb_bool_Limit : PySem.W.subIn K (.type "bool") (.ref C_Limit) = some false)
    (sb_int_Limit : PySem.W.subIn K (.type "int") (.ref C_Limit) = some false)
    (sb_str_Limit : PySem.W.subIn K (.type "str") (.ref C_Limit) = some false)
    (sb_list_Limit : PySem.W.subIn K (.type "list") (.ref C_Limit) = some false)
    (sb_tuple_Limit : PySem.W.subIn K (.type "tuple") (.ref C_Limit) = some false)
    (ss_Row_Limit : PySem.W.subIn K (.ref C_Row) (.ref C_Limit) = some false)
    (ne_Row_Limit : C_Row ≠ C_Limit)
    (ss_Keep_Limit : PySem.W.subIn K (.ref C_Keep) (.ref C_Limit) = some false)
    (ne_Keep_Limit : C_Keep ≠ C_Limit)
    (ss_Tries_Limit : PySem.W.subIn K (.ref C_Tries) (.ref C_Limit) = some false)
    (ne_Tries_Limit : C_Tries ≠ C_Limit)
    (ss_Limit_Limit : PySem.W.subIn K (.ref C_Limit) (.ref C_Limit) = some true)
    (ss_Leave_Limit : PySem.W.subIn K (.ref C_Leave) (.ref C_Limit) = some false)
    (ne_Leave_Limit : C_Leave ≠ C_Limit)
    (ss_Soft_Limit : PySem.W.subIn K (.ref C_Soft) (.ref C_Limit) = some false)
    (ne_Soft_Limit : C_Soft ≠ C_Limit)
    (ss_Count_Limit : PySem.W.subIn K (.ref C_Count) (.ref C_Limit) = some false)
    (ne_Count_Limit : C_Count ≠ C_Limit)
    (ss_Lend_Limit : PySem.W.subIn K (.ref C_Lend) (.ref C_Limit) = some false)
    (ne_Lend_Limit : C_Lend ≠ C_Limit)
    (ss_Call_Limit : PySem.W.subIn K (.ref C_Call) (.ref C_Limit) = some false)
    (ne_Call_Limit : C_Call ≠ C_Limit)
    (ss_Stack_Limit : PySem.W.subIn K (.ref C_Stack) (.ref C_Limit) = some false)
    (ne_Stack_Limit : C_Stack ≠ C_Limit)
    (ic_Tries : PySem.W.isClsIn K C_Tries = true)
    (tc_Tries : PySem.W.typeIn K (.ref C_Tries) = some (.type "type"))
    (sb_NoneType_Tries : PySem.W.subIn K (.type "NoneType") (.ref C_Tries) = some false)
    (sb_bool_Tries : PySem.W.subIn K (.type "bool") (.ref C_Tries) = some false)
    (sb_int_Tries : PySem.W.subIn K (.type "int") (.ref C_Tries) = some false)
    (sb_str_Tries : PySem.W.subIn K (.type "str") (.ref C_Tries) = some false)
    (sb_list_Tries : PySem.W.subIn K (.type "list") (.ref C_Tries) = some false)
    (sb_tuple_Tries : PySem.W.subIn K (.type "tuple") (.ref C_Tries) = some false)
    (ss_Row_Tries : PySem.W.subIn K (.ref C_Row) (.ref C_Tries) = some false)
    (ne_Row_Tries : C_Row ≠ C_Tries)
    (ss_Keep_Tries : PySem.W.subIn K (.ref C_Keep) (.ref C_Tries) = some false)
    (ne_Keep_Tries : C_Keep ≠ C_Tries)
    (ss_Tries_Tries : PySem.W.subIn K (.ref C_Tries) (.ref C_Tries) = some true)
    (ss_Limit_Tries : PySem.W.subIn K (.ref C_Limit) (.ref C_Tries) = some false)
    (ne_Limit_Tries : C_Limit ≠ C_Tries)
    (ss_Leave_Tries : PySem.W.subIn K (.ref C_Leave) (.ref C_Tries) = some false)
    (ne_Leave_Tries : C_Leave ≠ C_Tries)
    (ss_Soft_Tries : PySem.W.subIn K (.ref C_Soft) (.ref C_Tries) = some false)
    (ne_Soft_Tries : C_Soft ≠ C_Tries)
    (ss_Count_Tries : PySem.W.subIn K (.ref C_Count) (.ref C_Tries) = some false)
    (ne_Count_Tries : C_Count ≠ C_Tries)
    (ss_Lend_Tries : PySem.W.subIn K (.ref C_Lend) (.ref C_Tries) = some false)
    (ne_Lend_Tries : C_Lend ≠ C_Tries)
    (ss_Call_Tries : PySem.W.subIn K (.ref C_Call) (.ref C_Tries) = some false)
    (ne_Call_Tries : C_Call ≠ C_Tries)
    (ss_Stack_Tries : PySem.W.subIn K (.ref C_Stack) (.ref C_Tries) = some false)
    (ne_Stack_Tries : C_Stack ≠ C_Tries)
    (ic_Keep : PySem.W.isClsIn K C_Keep = true)
    (tc_Keep : PySem.W.typeIn K (.ref C_Keep) = some (.type "type"))
    (sb_NoneType_Keep : PySem.W.subIn K (.type "NoneType") (.ref C_Keep) = some false)
    (sb_bool_Keep : PySem.W.subIn K (.type "bool") (.ref C_Keep) = some false)
    (sb_int_Keep : PySem.W.subIn K (.type "int") (.ref C_Keep) = some false)
    (sb_str_Keep : PySem.W.subIn K (.type "str") (.ref C_Keep) = some false)
    (sb_list_Keep : PySem.W.subIn K (.type "list") (.ref C_Keep) = some false)
    (sb_tuple_Keep : PySem.W.subIn K (.type "tuple") (.ref C_Keep) = some false)
    (ss_Row_Keep : PySem.W.subIn K (.ref C_Row) (.ref C_Keep) = some false)
    (ne_Row_Keep : C_Row ≠ C_Keep)
    (ss_Keep_Keep : PySem.W.subIn K (.ref C_Keep) (.ref C_Keep) = some true)
    (ss_Tries_Keep : PySem.W.subIn K (.ref C_Tries) (.ref C_Keep) = some false)
    (ne_Tries_Keep : C_Tries ≠ C_Keep)
    (ss_Limit_Keep : PySem.W.subIn K (.ref C_Limit) (.ref C_Keep) = some false)
    (ne_Limit_Keep : C_Limit ≠ C_Keep)
    (ss_Leave_Keep : PySem.W.subIn K (.ref C_Leave) (.ref C_Keep) = some false)
    (ne_Leave_Keep : C_Leave ≠ C_Keep)
    (ss_Soft_Keep : PySem.W.subIn K (.ref C_Soft) (.ref C_Keep) = some false)
    (ne_Soft_Keep : C_Soft ≠ C_Keep)
    (ss_Count_Keep : PySem.W.subIn K (.ref C_Count) (.ref C_Keep) = some false)
    (ne_Count_Keep : C_Count ≠ C_Keep)
    (ss_Lend_Keep : PySem.W.subIn K (.ref C_Lend) (.ref C_Keep) = some false)
    (ne_Lend_Keep : C_Lend ≠ C_Keep)
    (ss_Call_Keep : PySem.W.subIn K (.ref C_Call) (.ref C_Keep) = some false)
    (ne_Call_Keep : C_Call ≠ C_Keep)
    (ss_Stack_Keep : PySem.W.subIn K (.ref C_Stack) (.ref C_Keep) = some false)
    (ne_Stack_Keep : C_Stack ≠ C_Keep)
    (g_LIVES : PySem.W.nsIn K mainGlobals "LIVES" = some (some (.ref K_LIVES)))
    (l_LIVES : K.lookup K_LIVES = some ⟨.type "tuple", oo1, .seq [.int 0 tk1_0, .int 1 tk1_1, .int 2 tk1_2, .int 3 tk1_3].toArray on1, os1⟩)
    (g_KEPT_ANSWERS : PySem.W.nsIn K mainGlobals "KEPT_ANSWERS" = some (some (.ref K_KEPT_ANSWERS)))
    (l_KEPT_ANSWERS : K.lookup K_KEPT_ANSWERS = some ⟨.type "tuple", oo2, .seq [.str "good" tk2_0, .str "all" tk2_1].toArray on2, os2⟩)
    (g_FAULTS : PySem.W.nsIn K mainGlobals "FAULTS" = some (some (.ref K_FAULTS)))
    (l_FAULTS : K.lookup K_FAULTS = some ⟨.type "tuple", oo3, .seq [.str "fault" tk3_0, .str "all" tk3_1].toArray on3, os3⟩)
    (g_MOST_ASKED : PySem.W.nsIn K mainGlobals "MOST_ASKED" = some (some (.ref K_MOST_ASKED)))
    (l_MOST_ASKED : K.lookup K_MOST_ASKED = some ⟨.type "tuple", oo4, .seq [.int 1 tk4_0, .int 2 tk4_1, .int 3 tk4_2].toArray on4, os4⟩)
    (g_MOST_TRIES : PySem.W.nsIn K mainGlobals "MOST_TRIES" = some (some (.ref K_MOST_TRIES)))
    (l_MOST_TRIES : K.lookup K_MOST_TRIES = some ⟨.type "tuple", oo5, .seq [.int 1 tk5_0, .int 2 tk5_1, .int 3 tk5_2, .int 4 tk5_3, .int 5 tk5_4, .int 6 tk5_5].toArray on5, os5⟩)
    (g_BAD : PySem.W.nsIn K mainGlobals "BAD" = some (some (.ref K_BAD)))
    (l_BAD : K.lookup K_BAD = some ⟨.type "tuple", oo6, .seq [.str "fault" tk6_0, .str "late" tk6_1, .str "denied" tk6_2].toArray on6, os6⟩)
    (g_CALLERS : PySem.W.nsIn K mainGlobals "CALLERS" = some (some (.ref K_CALLERS)))
    (l_CALLERS : K.lookup K_CALLERS = some ⟨.type "tuple", oo7, .seq [.str "in" tk7_0, .str "out" tk7_1].toArray on7, os7⟩)
    (g_WISHES : PySem.W.nsIn K mainGlobals "WISHES" = some (some (.ref K_WISHES)))
    (l_WISHES : K.lookup K_WISHES = some ⟨.type "tuple", oo8, .seq [.str "calm" tk8_0, .str "fresh" tk8_1, .str "kept" tk8_2, .str "leave" tk8_3, .str "once" tk8_4, .str "spare" tk8_5, .str "tries" tk8_6].toArray on8, os8⟩)
    (gd_BOUNDS : PySem.W.nsIn K mainGlobals "BOUNDS" = some (some (.ref KDBOUNDS)))
    (dw_BOUNDS : He.dicW K KDBOUNDS = some (He.keysIn w.params ["bound 1", "bound 2", "bound 3", "bound 4", "bound 5", "bound 6"]))
    (dk_BOUNDS_5 : PySem.W.nsIn K KDBOUNDS "bound 6" = some (some (.int 6 tv_BOUNDS_5)))
    (dk_BOUNDS_4 : PySem.W.nsIn K KDBOUNDS "bound 5" = some (some (.int 5 tv_BOUNDS_4)))
    (dk_BOUNDS_3 : PySem.W.nsIn K KDBOUNDS "bound 4" = some (some (.int 4 tv_BOUNDS_3)))
    (dk_BOUNDS_2 : PySem.W.nsIn K KDBOUNDS "bound 3" = some (some (.int 3 tv_BOUNDS_2)))
    (dk_BOUNDS_1 : PySem.W.nsIn K KDBOUNDS "bound 2" = some (some (.int 2 tv_BOUNDS_1)))
    (dk_BOUNDS_0 : PySem.W.nsIn K KDBOUNDS "bound 1" = some (some (.int 1 tv_BOUNDS_0)))
    (di_BOUNDS_8 : PySem.W.nsIn K KDBOUNDS "tries" = some none)
    (di_BOUNDS_7 : PySem.W.nsIn K KDBOUNDS "spare" = some none)
    (di_BOUNDS_6 : PySem.W.nsIn K KDBOUNDS "once" = some none)
    (di_BOUNDS_5 : PySem.W.nsIn K KDBOUNDS "leave" = some none)
    (di_BOUNDS_4 : PySem.W.nsIn K KDBOUNDS "kept" = some none)
    (di_BOUNDS_3 : PySem.W.nsIn K KDBOUNDS "fresh" = some none)
    (di_BOUNDS_2 : PySem.W.nsIn K KDBOUNDS "calm" = some none)
    (di_BOUNDS_1 : PySem.W.nsIn K KDBOUNDS "all" = some none)
    (di_BOUNDS_0 : PySem.W.nsIn K KDBOUNDS "fault" = some none)
    (gd_BREAKS : PySem.W.nsIn K mainGlobals "BREAKS" = some (some (.ref KDBREAKS)))
    (dw_BREAKS : He.dicW K KDBREAKS = some (He.keysIn w.params ["calm", "fresh", "kept", "leave", "once", "spare", "tries"]))
    (a_fn_breaks_tries : PySem.W.nsIn K mainGlobals "breaks_tries" = some (some (.ref A_breaks_tries)))
    (dk_BREAKS_6 : PySem.W.nsIn K KDBREAKS "tries" = some (some (.ref A_breaks_tries)))
    (a_fn_breaks_spare : PySem.W.nsIn K mainGlobals "breaks_spare" = some (some (.ref A_breaks_spare)))
    (dk_BREAKS_5 : PySem.W.nsIn K KDBREAKS "spare" = some (some (.ref A_breaks_spare)))
    (a_fn_breaks_once : PySem.W.nsIn K mainGlobals "breaks_once" = some (some (.ref A_breaks_once)))
    (dk_BREAKS_4 : PySem.W.nsIn K KDBREAKS "once" = some (some (.ref A_breaks_once)))
    (a_fn_breaks_leave : PySem.W.nsIn K mainGlobals "breaks_leave" = some (some (.ref A_breaks_leave)))
    (dk_BREAKS_3 : PySem.W.nsIn K KDBREAKS "leave" = some (some (.ref A_breaks_leave)))
    (a_fn_breaks_kept : PySem.W.nsIn K mainGlobals "breaks_kept" = some (some (.ref A_breaks_kept)))
    (dk_BREAKS_2 : PySem.W.nsIn K KDBREAKS "kept" = some (some (.ref A_breaks_kept)))
    (a_fn_breaks_fresh : PySem.W.nsIn K mainGlobals "breaks_fresh" = some (some (.ref A_breaks_fresh)))
    (dk_BREAKS_1 : PySem.W.nsIn K KDBREAKS "fresh" = some (some (.ref A_breaks_fresh)))
    (a_fn_breaks_calm : PySem.W.nsIn K mainGlobals "breaks_calm" = some (some (.ref A_breaks_calm)))
    (dk_BREAKS_0 : PySem.W.nsIn K KDBREAKS "calm" = some (some (.ref A_breaks_calm)))
    (di_BREAKS_7 : PySem.W.nsIn K KDBREAKS "bound 6" = some none)
    (di_BREAKS_6 : PySem.W.nsIn K KDBREAKS "bound 5" = some none)
    (di_BREAKS_5 : PySem.W.nsIn K KDBREAKS "bound 4" = some none)
    (di_BREAKS_4 : PySem.W.nsIn K KDBREAKS "bound 3" = some none)
    (di_BREAKS_3 : PySem.W.nsIn K KDBREAKS "bound 2" = some none)
    (di_BREAKS_2 : PySem.W.nsIn K KDBREAKS "bound 1" = some none)
    (di_BREAKS_1 : PySem.W.nsIn K KDBREAKS "all" = some none)
    (di_BREAKS_0 : PySem.W.nsIn K KDBREAKS "fault" = some none)
    (gd_FAULTS_OF : PySem.W.nsIn K mainGlobals "FAULTS_OF" = some (some (.ref KDFAULTS_OF)))
    (dw_FAULTS_OF : He.dicW K KDFAULTS_OF = some (He.keysIn w.params ["fault", "all"]))
    (dk_FAULTS_OF_1 : PySem.W.nsIn K KDFAULTS_OF "all" = some (some (.ref KVFAULTS_OF1)))
    (dl_FAULTS_OF_1 : K.lookup KVFAULTS_OF1 = some ⟨.type "tuple", oo9, .seq [.str "fault" tk9_0, .str "late" tk9_1, .str "denied" tk9_2].toArray on9, os9⟩)
    (dk_FAULTS_OF_0 : PySem.W.nsIn K KDFAULTS_OF "fault" = some (some (.ref KVFAULTS_OF0)))
    (dl_FAULTS_OF_0 : K.lookup KVFAULTS_OF0 = some ⟨.type "tuple", oo10, .seq [.str "fault" tk10_0, .str "late" tk10_1].toArray on10, os10⟩)
    (mo_Lend : Own.MkO K C_Lend)
    (mo_Count : Own.MkO K C_Count)
    (mo_Leave : Own.MkO K C_Leave)
    (mk_Keep : Mk K C_Keep A_Keep_init)
    (mk_Tries : Mk K C_Tries A_Tries_init)
    (mk_Limit : Mk K C_Limit A_Limit_init)
    (mk_Soft : Mk K C_Soft A_Soft_init)
    (mk_Call : Mk K C_Call A_Call_init)
    (mk_Stack : Mk K C_Stack A_Stack_init)
    (own_Row : Own.OwnC K C_Row A_Row_str A_Row_eq)
    (own_Keep : Own.OwnC K C_Keep A_Row_str A_Row_eq)
    (own_Tries : Own.OwnC K C_Tries A_Row_str A_Row_eq)
    (own_Limit : Own.OwnC K C_Limit A_Row_str A_Row_eq)
    (own_Leave : Own.OwnC K C_Leave A_Row_str A_Row_eq)
    (own_Soft : Own.OwnC K C_Soft A_Row_str A_Row_eq)
    (own_Count : Own.OwnC K C_Count A_Row_str A_Row_eq)
    (own_Lend : Own.OwnC K C_Lend A_Row_str A_Row_eq)
    (a_fn__law_deal : PySem.W.nsIn K mainGlobals "_law_deal" = some (some (.ref A_deal)))
    (F_deal : Fun K "_law_deal" "_law_deal" s_law_deal A_deal fd_deal)
    (a_fn__law_draw : PySem.W.nsIn K mainGlobals "_law_draw" = some (some (.ref A_draw)))
    (F_draw : Fun K "_law_draw" "_law_draw" s_law_draw A_draw fd_draw)
    (a_fn__law_mixed : PySem.W.nsIn K mainGlobals "_law_mixed" = some (some (.ref A_mixed)))
    (F_mixed : Fun K "_law_mixed" "_law_mixed" s_law_mixed A_mixed fd_mixed)
    (a_fn__law_cases : PySem.W.nsIn K mainGlobals "_law_cases" = some (some (.ref A_cases)))
    (F_cases : Fun K "_law_cases" "_law_cases" s_law_cases A_cases fd_cases)
    (a_fn_is_sequence : PySem.W.nsIn K mainGlobals "is_sequence" = some (some (.ref A_is_sequence)))
    (F_is_sequence : Fun K "is_sequence" "is_sequence" s_is_sequence A_is_sequence fd_is_sequence)
    (a_fn_rows_of : PySem.W.nsIn K mainGlobals "rows_of" = some (some (.ref A_rows_of)))
    (F_rows_of : Fun K "rows_of" "rows_of" s_rows_of A_rows_of fd_rows_of)
    (F_Stack_init : FunD K "__init__" "Stack.__init__" (defArgs s_Stack_init) (defBody s_Stack_init) (defScope s_Stack_init) [.ref K0_Stack_init] [] A_Stack_init fd_Stack_init)
    (l0_Stack_init : K.lookup K0_Stack_init = some ⟨.type "tuple", oo11, .seq [].toArray on11, os11⟩)
    (a_fn_check_argument : PySem.W.nsIn K mainGlobals "check_argument" = some (some (.ref A_check_argument)))
    (F_check_argument : Fun K "check_argument" "check_argument" s_check_argument A_check_argument fd_check_argument)
    (a_fn_is_integer : PySem.W.nsIn K mainGlobals "is_integer" = some (some (.ref A_is_integer)))
    (F_is_integer : Fun K "is_integer" "is_integer" s_is_integer A_is_integer fd_is_integer)
    (a_fn_is_one_of : PySem.W.nsIn K mainGlobals "is_one_of" = some (some (.ref A_is_one_of)))
    (F_is_one_of : Fun K "is_one_of" "is_one_of" s_is_one_of A_is_one_of fd_is_one_of)
    (F_Keep_init : FunD K "__init__" "Keep.__init__" (defArgs s_Keep_init) (defBody s_Keep_init) (defScope s_Keep_init) [.str "good", .non] [] A_Keep_init fd_Keep_init)
    (F_Tries_init : FunD K "__init__" "Tries.__init__" (defArgs s_Tries_init) (defBody s_Tries_init) (defScope s_Tries_init) [.str "fault"] [] A_Tries_init fd_Tries_init)
    (F_Limit_init : Fun K "__init__" "Limit.__init__" s_Limit_init A_Limit_init fd_Limit_init)
    (F_Soft_init : FunD K "__init__" "Soft.__init__" (defArgs s_Soft_init) (defBody s_Soft_init) (defScope s_Soft_init) [.str "fault"] [] A_Soft_init fd_Soft_init)
    (a_fn_every_row : PySem.W.nsIn K mainGlobals "every_row" = some (some (.ref A_every_row)))
    (F_every_row : Fun K "every_row" "every_row" s_every_row A_every_row fd_every_row)
    (mt_Keep_words : Meth K C_Keep "words" A_Keep_words)
    (F_Keep_words : Fun K "words" "Keep.words" s_Keep_words A_Keep_words fd_Keep_words)
    (mt_Tries_words : Meth K C_Tries "words" A_Tries_words)
    (F_Tries_words : Fun K "words" "Tries.words" s_Tries_words A_Tries_words fd_Tries_words)
    (mt_Limit_words : Meth K C_Limit "words" A_Limit_words)
    (F_Limit_words : Fun K "words" "Limit.words" s_Limit_words A_Limit_words fd_Limit_words)
    (mt_Leave_words : Meth K C_Leave "words" A_Leave_words)
    (F_Leave_words : Fun K "words" "Leave.words" s_Leave_words A_Leave_words fd_Leave_words)
    (mt_Soft_words : Meth K C_Soft "words" A_Soft_words)
    (F_Soft_words : Fun K "words" "Soft.words" s_Soft_words A_Soft_words fd_Soft_words)
    (mt_Count_words : Meth K C_Count "words" A_Count_words)
    (F_Count_words : Fun K "words" "Count.words" s_Count_words A_Count_words fd_Count_words)
    (mt_Lend_words : Meth K C_Lend "words" A_Lend_words)
    (F_Lend_words : Fun K "words" "Lend.words" s_Lend_words A_Lend_words fd_Lend_words)
    (F_Row_str : Fun K "__str__" "Row.__str__" s_Row_str A_Row_str fd_Row_str)
    (cr_Row_read : ClX.CRead K C_Row (.type "type"))
    (cmt_Row_read : ClX.CMet K C_Row (.type "type") "read" P_Row_read A_Row_read)
    (F_Row_read : Fun K "read" "Row.read" s_Row_read A_Row_read fd_Row_read)
    (a_fn_rows_in : PySem.W.nsIn K mainGlobals "rows_in" = some (some (.ref A_rows_in)))
    (F_rows_in : Fun K "rows_in" "rows_in" s_rows_in A_rows_in fd_rows_in)
    (cr_Stack_read : ClX.CRead K C_Stack (.type "type"))
    (cmt_Stack_read : ClX.CMet K C_Stack (.type "type") "read" P_Stack_read A_Stack_read)
    (F_Stack_read : Fun K "read" "Stack.read" s_Stack_read A_Stack_read fd_Stack_read)
    (a_fn_is_wish : PySem.W.nsIn K mainGlobals "is_wish" = some (some (.ref A_is_wish)))
    (F_is_wish : Fun K "is_wish" "is_wish" s_is_wish A_is_wish fd_is_wish)
    (a_fn_check_wish : PySem.W.nsIn K mainGlobals "check_wish" = some (some (.ref A_check_wish)))
    (F_check_wish : Fun K "check_wish" "check_wish" s_check_wish A_check_wish fd_check_wish)
    (a_fn_reached : PySem.W.nsIn K mainGlobals "reached" = some (some (.ref A_reached)))
    (F_reached : Fun K "reached" "reached" s_reached A_reached fd_reached)
    (a_fn_begun : PySem.W.nsIn K mainGlobals "begun" = some (some (.ref A_begun)))
    (F_begun : Fun K "begun" "begun" s_begun A_begun fd_begun)
    (mt_Call_make_try : Meth K C_Call "make_try" A_Call_make_try)
    (F_Call_make_try : Fun K "make_try" "Call.make_try" s_Call_make_try A_Call_make_try fd_Call_make_try)
    (a_fn_may_store : PySem.W.nsIn K mainGlobals "may_store" = some (some (.ref A_may_store)))
    (F_may_store : Fun K "may_store" "may_store" s_may_store A_may_store fd_may_store)
    (mt_Call_ask : Meth K C_Call "ask" A_Call_ask)
    (F_Call_ask : Fun K "ask" "Call.ask" s_Call_ask A_Call_ask fd_Call_ask)
    (mt_Call_ask_keeper : Meth K C_Call "ask_keeper" A_Call_ask_keeper)
    (F_Call_ask_keeper : Fun K "ask_keeper" "Call.ask_keeper" s_Call_ask_keeper A_Call_ask_keeper fd_Call_ask_keeper)
    (mt_Call_ask_repeatedly : Meth K C_Call "ask_repeatedly" A_Call_ask_repeatedly)
    (F_Call_ask_repeatedly : Fun K "ask_repeatedly" "Call.ask_repeatedly" s_Call_ask_repeatedly A_Call_ask_repeatedly fd_Call_ask_repeatedly)
    (mt_Call_ask_limited : Meth K C_Call "ask_limited" A_Call_ask_limited)
    (F_Call_ask_limited : Fun K "ask_limited" "Call.ask_limited" s_Call_ask_limited A_Call_ask_limited fd_Call_ask_limited)
    (mt_Call_ask_softly : Meth K C_Call "ask_softly" A_Call_ask_softly)
    (F_Call_ask_softly : Fun K "ask_softly" "Call.ask_softly" s_Call_ask_softly A_Call_ask_softly fd_Call_ask_softly)
    (F_Call_init : Fun K "__init__" "Call.__init__" s_Call_init A_Call_init fd_Call_init)
    (a_fn_calls_of : PySem.W.nsIn K mainGlobals "calls_of" = some (some (.ref A_calls_of)))
    (F_calls_of : Fun K "calls_of" "calls_of" s_calls_of A_calls_of fd_calls_of)
    (a_fn_calls_from : PySem.W.nsIn K mainGlobals "calls_from" = some (some (.ref A_calls_from)))
    (F_calls_from : Fun K "calls_from" "calls_from" s_calls_from A_calls_from fd_calls_from)
    (a_fn_aged : PySem.W.nsIn K mainGlobals "aged" = some (some (.ref A_aged)))
    (F_aged : Fun K "aged" "aged" s_aged A_aged fd_aged)
    (a_fn_ticked : PySem.W.nsIn K mainGlobals "ticked" = some (some (.ref A_ticked)))
    (F_ticked : Fun K "ticked" "ticked" s_ticked A_ticked fd_ticked)
    (a_fn_event_of : PySem.W.nsIn K mainGlobals "event_of" = some (some (.ref A_event_of)))
    (F_event_of : Fun K "event_of" "event_of" s_event_of A_event_of fd_event_of)
    (a_fn_events_from : PySem.W.nsIn K mainGlobals "events_from" = some (some (.ref A_events_from)))
    (F_events_from : Fun K "events_from" "events_from" s_events_from A_events_from fd_events_from)
    (a_fn_reached_standings : PySem.W.nsIn K mainGlobals "reached_standings" = some (some (.ref A_reached_standings)))
    (F_reached_standings : Fun K "reached_standings" "reached_standings" s_reached_standings A_reached_standings fd_reached_standings)
    (F_breaks_calm : Fun K "breaks_calm" "breaks_calm" s_breaks_calm A_breaks_calm fd_breaks_calm)
    (F_breaks_fresh : Fun K "breaks_fresh" "breaks_fresh" s_breaks_fresh A_breaks_fresh fd_breaks_fresh)
    (F_breaks_kept : Fun K "breaks_kept" "breaks_kept" s_breaks_kept A_breaks_kept fd_breaks_kept)
    (F_breaks_leave : Fun K "breaks_leave" "breaks_leave" s_breaks_leave A_breaks_leave fd_breaks_leave)
    (F_breaks_once : Fun K "breaks_once" "breaks_once" s_breaks_once A_breaks_once fd_breaks_once)
    (F_breaks_spare : Fun K "breaks_spare" "breaks_spare" s_breaks_spare A_breaks_spare fd_breaks_spare)
    (F_breaks_tries : Fun K "breaks_tries" "breaks_tries" s_breaks_tries A_breaks_tries fd_breaks_tries)
    (a_fn_breaks : PySem.W.nsIn K mainGlobals "breaks" = some (some (.ref A_breaks)))
    (F_breaks : Fun K "breaks" "breaks" s_breaks A_breaks fd_breaks)
    (a_fn_trail : PySem.W.nsIn K mainGlobals "trail" = some (some (.ref A_trail)))
    (F_trail : Fun K "trail" "trail" s_trail A_trail fd_trail)
    (a_fn_breach : PySem.W.nsIn K mainGlobals "breach" = some (some (.ref A_breach)))
    (F_breach : Fun K "breach" "breach" s_breach A_breach fd_breach)
    (a_fn_standings : PySem.W.nsIn K mainGlobals "standings" = some (some (.ref A_standings)))
    (F_standings : Fun K "standings" "standings" s_standings A_standings fd_standings)
    (a_fn_possible_calls : PySem.W.nsIn K mainGlobals "possible_calls" = some (some (.ref A_possible_calls)))
    (F_possible_calls : Fun K "possible_calls" "possible_calls" s_possible_calls A_possible_calls fd_possible_calls)
    (a_fn_most_tries : PySem.W.nsIn K mainGlobals "most_tries" = some (some (.ref A_most_tries)))
    (F_most_tries : Fun K "most_tries" "most_tries" s_most_tries A_most_tries fd_most_tries)
    (a_fn_kept_of : PySem.W.nsIn K mainGlobals "kept_of" = some (some (.ref A_kept_of)))
    (F_kept_of : Fun K "kept_of" "kept_of" s_kept_of A_kept_of fd_kept_of)
    (a_fn_kept_wishes : PySem.W.nsIn K mainGlobals "kept_wishes" = some (some (.ref A_kept_wishes)))
    (F_kept_wishes : Fun K "kept_wishes" "kept_wishes" s_kept_wishes A_kept_wishes fd_kept_wishes)
    (a_fn_law : PySem.W.nsIn K mainGlobals "law" = some (some (.ref A_law)))
    (F_law : Fun K "law" "law" s_law A_law fd_law)
    (ci_reached_standings : CodeIs K A_reached_standings cL_reached_standings)
    (tn_reached_standings : CodeTab K cL_reached_standings PL_reached_standings) :
    ∃ fd : FuncData, (∀ (s : Shared) (v : Value), BindsTo s fd ⟨[v], []⟩ [("_law_script", v)]) ∧ ∀ base : Heap, K.In base → base.Ns mainGlobals mg → (∀ p ∈ ([(cL_reached_standings, PL_reached_standings)] : List (Addr × Addr)), LamX.TabB base mg p.1 p.2) → FnOk P w K mg base (L2.CX P w) 46 fa fd ["_law_script"] (@SpV ⟨P, w, fun _ => none, [(PL_reached_standings, ((("reached_standings" : Str) ++ (".<locals>." : Str)) ++ ("<lambda>" : Str)))]⟩ K 1 (f_law ⟨C_WrapError, C_InvalidRow, C_InvalidStack, C_InvalidText, C_InvalidWish, C_NoRow, C_Row, C_Keep, C_Tries, C_Limit, C_Leave, C_Soft, C_Count, C_Lend, C_Call, C_Stack, A_breaks_calm, A_breaks_fresh, A_breaks_kept, A_breaks_leave, A_breaks_once, A_breaks_spare, A_breaks_tries⟩)) := by
  letI : WW := ⟨P, w, fun _ => none, [(PL_reached_standings, ((("reached_standings" : Str) ++ (".<locals>." : Str)) ++ ("<lambda>" : Str)))]⟩
  have e := hfa.symm.trans (mg_of X G a_fn_law)
  cases e
  refine ⟨fd_law, fun s v => ?bnd, fun base _ _ HT => ?_⟩
  case bnd => obtain ⟨_, _, _, _, _, _, _, _, _, rfl, _, _⟩ := F_law.ex; exact .of_eq rfl
  let c : CS := ⟨C_WrapError, C_InvalidRow, C_InvalidStack, C_InvalidText, C_InvalidWish, C_NoRow, C_Row, C_Keep, C_Tries, C_Limit, C_Leave, C_Soft, C_Count, C_Lend, C_Call, C_Stack, A_breaks_calm, A_breaks_fresh, A_breaks_kept, A_breaks_leave, A_breaks_once, A_breaks_spare, A_breaks_tries⟩
  have it_Row : InsTy K C_Row := insTy_of cl_Row ca_Row oc_n oc_t cm_Row
  have it_Keep : InsTy K C_Keep := insTy_of cl_Keep ca_Keep oc_n oc_t cm_Keep
  have it_Tries : InsTy K C_Tries := insTy_of cl_Tries ca_Tries oc_n oc_t cm_Tries
  have it_Limit : InsTy K C_Limit := insTy_of cl_Limit ca_Limit oc_n oc_t cm_Limit
  have it_Leave : InsTy K C_Leave := insTy_of cl_Leave ca_Leave oc_n oc_t cm_Leave
  have it_Soft : InsTy K C_Soft := insTy_of cl_Soft ca_Soft oc_n oc_t cm_Soft
  have it_Count : InsTy K C_Count := insTy_of cl_Count ca_Count oc_n oc_t cm_Count
  have it_Lend : InsTy K C_Lend := insTy_of cl_Lend ca_Lend oc_n oc_t cm_Lend
  have it_Call : InsTy K C_Call := insTy_of cl_Call ca_Call oc_n oc_t cm_Call
  have it_Stack : InsTy K C_Stack := insTy_of cl_Stack ca_Stack oc_n oc_t cm_Stack
  have O_rows : FldOk K "rows" (okA c) := fldOk_of (ma1 ⟨cl_Row, no_rows_Row⟩ (ma1 ⟨cl_Keep, no_rows_Keep⟩ (ma1 ⟨cl_Tries, no_rows_Tries⟩ (ma1 ⟨cl_Limit, no_rows_Limit⟩ (ma1 ⟨cl_Leave, no_rows_Leave⟩ (ma1 ⟨cl_Soft, no_rows_Soft⟩ (ma1 ⟨cl_Count, no_rows_Count⟩ (ma1 ⟨cl_Lend, no_rows_Lend⟩ (ma1 ⟨cl_Call, no_rows_Call⟩ (ma1 ⟨cl_Stack, no_rows_Stack⟩ ma0))))))))))
  have O_life : FldOk K "life" (okA c) := fldOk_of (ma1 ⟨cl_Row, no_life_Row⟩ (ma1 ⟨cl_Keep, no_life_Keep⟩ (ma1 ⟨cl_Tries, no_life_Tries⟩ (ma1 ⟨cl_Limit, no_life_Limit⟩ (ma1 ⟨cl_Leave, no_life_Leave⟩ (ma1 ⟨cl_Soft, no_life_Soft⟩ (ma1 ⟨cl_Count, no_life_Count⟩ (ma1 ⟨cl_Lend, no_life_Lend⟩ (ma1 ⟨cl_Call, no_life_Call⟩ (ma1 ⟨cl_Stack, no_life_Stack⟩ ma0))))))))))
  have O_what : FldOk K "what" (okA c) := fldOk_of (ma1 ⟨cl_Row, no_what_Row⟩ (ma1 ⟨cl_Keep, no_what_Keep⟩ (ma1 ⟨cl_Tries, no_what_Tries⟩ (ma1 ⟨cl_Limit, no_what_Limit⟩ (ma1 ⟨cl_Leave, no_what_Leave⟩ (ma1 ⟨cl_Soft, no_what_Soft⟩ (ma1 ⟨cl_Count, no_what_Count⟩ (ma1 ⟨cl_Lend, no_what_Lend⟩ (ma1 ⟨cl_Call, no_what_Call⟩ (ma1 ⟨cl_Stack, no_what_Stack⟩ ma0))))))))))
  have O_on : FldOk K "on" (okA c) := fldOk_of (ma1 ⟨cl_Row, no_on_Row⟩ (ma1 ⟨cl_Keep, no_on_Keep⟩ (ma1 ⟨cl_Tries, no_on_Tries⟩ (ma1 ⟨cl_Limit, no_on_Limit⟩ (ma1 ⟨cl_Leave, no_on_Leave⟩ (ma1 ⟨cl_Soft, no_on_Soft⟩ (ma1 ⟨cl_Count, no_on_Count⟩ (ma1 ⟨cl_Lend, no_on_Lend⟩ (ma1 ⟨cl_Call, no_on_Call⟩ (ma1 ⟨cl_Stack, no_on_Stack⟩ ma0))))))))))
  have O_many : FldOk K "many" (okA c) := fldOk_of (ma1 ⟨cl_Row, no_many_Row⟩ (ma1 ⟨cl_Keep, no_many_Keep⟩ (ma1 ⟨cl_Tries, no_many_Tries⟩ (ma1 ⟨cl_Limit, no_many_Limit⟩ (ma1 ⟨cl_Leave, no_many_Leave⟩ (ma1 ⟨cl_Soft, no_many_Soft⟩ (ma1 ⟨cl_Count, no_many_Count⟩ (ma1 ⟨cl_Lend, no_many_Lend⟩ (ma1 ⟨cl_Call, no_many_Call⟩ (ma1 ⟨cl_Stack, no_many_Stack⟩ ma0))))))))))
  have O_outcomes : FldOk K "outcomes" (okA c) := fldOk_of (ma1 ⟨cl_Row, no_outcomes_Row⟩ (ma1 ⟨cl_Keep, no_outcomes_Keep⟩ (ma1 ⟨cl_Tries, no_outcomes_Tries⟩ (ma1 ⟨cl_Limit, no_outcomes_Limit⟩ (ma1 ⟨cl_Leave, no_outcomes_Leave⟩ (ma1 ⟨cl_Soft, no_outcomes_Soft⟩ (ma1 ⟨cl_Count, no_outcomes_Count⟩ (ma1 ⟨cl_Lend, no_outcomes_Lend⟩ (ma1 ⟨cl_Call, no_outcomes_Call⟩ (ma1 ⟨cl_Stack, no_outcomes_Stack⟩ ma0))))))))))
  have O_tries : FldOk K "tries" (okA c) := fldOk_of (ma1 ⟨cl_Row, no_tries_Row⟩ (ma1 ⟨cl_Keep, no_tries_Keep⟩ (ma1 ⟨cl_Tries, no_tries_Tries⟩ (ma1 ⟨cl_Limit, no_tries_Limit⟩ (ma1 ⟨cl_Leave, no_tries_Leave⟩ (ma1 ⟨cl_Soft, no_tries_Soft⟩ (ma1 ⟨cl_Count, no_tries_Count⟩ (ma1 ⟨cl_Lend, no_tries_Lend⟩ (ma1 ⟨cl_Call, no_tries_Call⟩ (ma1 ⟨cl_Stack, no_tries_Stack⟩ ma0))))))))))
  have O_limits : FldOk K "limits" (okA c) := fldOk_of (ma1 ⟨cl_Row, no_limits_Row⟩ (ma1 ⟨cl_Keep, no_limits_Keep⟩ (ma1 ⟨cl_Tries, no_limits_Tries⟩ (ma1 ⟨cl_Limit, no_limits_Limit⟩ (ma1 ⟨cl_Leave, no_limits_Leave⟩ (ma1 ⟨cl_Soft, no_limits_Soft⟩ (ma1 ⟨cl_Count, no_limits_Count⟩ (ma1 ⟨cl_Lend, no_limits_Lend⟩ (ma1 ⟨cl_Call, no_limits_Call⟩ (ma1 ⟨cl_Stack, no_limits_Stack⟩ ma0))))))))))
  have O_cut_by : FldOk K "cut_by" (okA c) := fldOk_of (ma1 ⟨cl_Row, no_cut_by_Row⟩ (ma1 ⟨cl_Keep, no_cut_by_Keep⟩ (ma1 ⟨cl_Tries, no_cut_by_Tries⟩ (ma1 ⟨cl_Limit, no_cut_by_Limit⟩ (ma1 ⟨cl_Leave, no_cut_by_Leave⟩ (ma1 ⟨cl_Soft, no_cut_by_Soft⟩ (ma1 ⟨cl_Count, no_cut_by_Count⟩ (ma1 ⟨cl_Lend, no_cut_by_Lend⟩ (ma1 ⟨cl_Call, no_cut_by_Call⟩ (ma1 ⟨cl_Stack, no_cut_by_Stack⟩ ma0))))))))))
  have O_counts : FldOk K "counts" (okA c) := fldOk_of (ma1 ⟨cl_Row, no_counts_Row⟩ (ma1 ⟨cl_Keep, no_counts_Keep⟩ (ma1 ⟨cl_Tries, no_counts_Tries⟩ (ma1 ⟨cl_Limit, no_counts_Limit⟩ (ma1 ⟨cl_Leave, no_counts_Leave⟩ (ma1 ⟨cl_Soft, no_counts_Soft⟩ (ma1 ⟨cl_Count, no_counts_Count⟩ (ma1 ⟨cl_Lend, no_counts_Lend⟩ (ma1 ⟨cl_Call, no_counts_Call⟩ (ma1 ⟨cl_Stack, no_counts_Stack⟩ ma0))))))))))
  have O_stored : FldOk K "stored" (okA c) := fldOk_of (ma1 ⟨cl_Row, no_stored_Row⟩ (ma1 ⟨cl_Keep, no_stored_Keep⟩ (ma1 ⟨cl_Tries, no_stored_Tries⟩ (ma1 ⟨cl_Limit, no_stored_Limit⟩ (ma1 ⟨cl_Leave, no_stored_Leave⟩ (ma1 ⟨cl_Soft, no_stored_Soft⟩ (ma1 ⟨cl_Count, no_stored_Count⟩ (ma1 ⟨cl_Lend, no_stored_Lend⟩ (ma1 ⟨cl_Call, no_stored_Call⟩ (ma1 ⟨cl_Stack, no_stored_Stack⟩ ma0))))))))))
  have O_held : FldOk K "held" (okA c) := fldOk_of (ma1 ⟨cl_Row, no_held_Row⟩ (ma1 ⟨cl_Keep, no_held_Keep⟩ (ma1 ⟨cl_Tries, no_held_Tries⟩ (ma1 ⟨cl_Limit, no_held_Limit⟩ (ma1 ⟨cl_Leave, no_held_Leave⟩ (ma1 ⟨cl_Soft, no_held_Soft⟩ (ma1 ⟨cl_Count, no_held_Count⟩ (ma1 ⟨cl_Lend, no_held_Lend⟩ (ma1 ⟨cl_Call, no_held_Call⟩ (ma1 ⟨cl_Stack, no_held_Stack⟩ ma0))))))))))
  have O_given : FldOk K "given" (okA c) := fldOk_of (ma1 ⟨cl_Row, no_given_Row⟩ (ma1 ⟨cl_Keep, no_given_Keep⟩ (ma1 ⟨cl_Tries, no_given_Tries⟩ (ma1 ⟨cl_Limit, no_given_Limit⟩ (ma1 ⟨cl_Leave, no_given_Leave⟩ (ma1 ⟨cl_Soft, no_given_Soft⟩ (ma1 ⟨cl_Count, no_given_Count⟩ (ma1 ⟨cl_Lend, no_given_Lend⟩ (ma1 ⟨cl_Call, no_given_Call⟩ (ma1 ⟨cl_Stack, no_given_Stack⟩ ma0))))))))))
  have O_behind : FldOk K "behind" (okA c) := fldOk_of (ma1 ⟨cl_Row, no_behind_Row⟩ (ma1 ⟨cl_Keep, no_behind_Keep⟩ (ma1 ⟨cl_Tries, no_behind_Tries⟩ (ma1 ⟨cl_Limit, no_behind_Limit⟩ (ma1 ⟨cl_Leave, no_behind_Leave⟩ (ma1 ⟨cl_Soft, no_behind_Soft⟩ (ma1 ⟨cl_Count, no_behind_Count⟩ (ma1 ⟨cl_Lend, no_behind_Lend⟩ (ma1 ⟨cl_Call, no_behind_Call⟩ (ma1 ⟨cl_Stack, no_behind_Stack⟩ ma0))))))))))
  have O_answer : FldOk K "answer" (okA c) := fldOk_of (ma1 ⟨cl_Row, no_answer_Row⟩ (ma1 ⟨cl_Keep, no_answer_Keep⟩ (ma1 ⟨cl_Tries, no_answer_Tries⟩ (ma1 ⟨cl_Limit, no_answer_Limit⟩ (ma1 ⟨cl_Leave, no_answer_Leave⟩ (ma1 ⟨cl_Soft, no_answer_Soft⟩ (ma1 ⟨cl_Count, no_answer_Count⟩ (ma1 ⟨cl_Lend, no_answer_Lend⟩ (ma1 ⟨cl_Call, no_answer_Call⟩ (ma1 ⟨cl_Stack, no_answer_Stack⟩ ma0))))))))))
  have O_caller : FldOk K "caller" (okA c) := fldOk_of (ma1 ⟨cl_Row, no_caller_Row⟩ (ma1 ⟨cl_Keep, no_caller_Keep⟩ (ma1 ⟨cl_Tries, no_caller_Tries⟩ (ma1 ⟨cl_Limit, no_caller_Limit⟩ (ma1 ⟨cl_Leave, no_caller_Leave⟩ (ma1 ⟨cl_Soft, no_caller_Soft⟩ (ma1 ⟨cl_Count, no_caller_Count⟩ (ma1 ⟨cl_Lend, no_caller_Lend⟩ (ma1 ⟨cl_Call, no_caller_Call⟩ (ma1 ⟨cl_Stack, no_caller_Stack⟩ ma0))))))))))
  have I_list : CtOk K (.type "list") (ctB c) := ctB_of (ma1 ⟨kit_tp (by decide +kernel) st_Row_list, it_Row⟩ (ma1 ⟨kit_tp (by decide +kernel) st_Keep_list, it_Keep⟩ (ma1 ⟨kit_tp (by decide +kernel) st_Tries_list, it_Tries⟩ (ma1 ⟨kit_tp (by decide +kernel) st_Limit_list, it_Limit⟩ (ma1 ⟨kit_tp (by decide +kernel) st_Leave_list, it_Leave⟩ (ma1 ⟨kit_tp (by decide +kernel) st_Soft_list, it_Soft⟩ (ma1 ⟨kit_tp (by decide +kernel) st_Count_list, it_Count⟩ (ma1 ⟨kit_tp (by decide +kernel) st_Lend_list, it_Lend⟩ (ma1 ⟨kit_tp (by decide +kernel) st_Call_list, it_Call⟩ (ma1 ⟨kit_tp (by decide +kernel) st_Stack_list, it_Stack⟩ ma0))))))))))
  have I_tuple : CtOk K (.type "tuple") (ctB c) := ctB_of (ma1 ⟨kit_tp (by decide +kernel) st_Row_tuple, it_Row⟩ (ma1 ⟨kit_tp (by decide +kernel) st_Keep_tuple, it_Keep⟩ (ma1 ⟨kit_tp (by decide +kernel) st_Tries_tuple, it_Tries⟩ (ma1 ⟨kit_tp (by decide +kernel) st_Limit_tuple, it_Limit⟩ (ma1 ⟨kit_tp (by decide +kernel) st_Leave_tuple, it_Leave⟩ (ma1 ⟨kit_tp (by decide +kernel) st_Soft_tuple, it_Soft⟩ (ma1 ⟨kit_tp (by decide +kernel) st_Count_tuple, it_Count⟩ (ma1 ⟨kit_tp (by decide +kernel) st_Lend_tuple, it_Lend⟩ (ma1 ⟨kit_tp (by decide +kernel) st_Call_tuple, it_Call⟩ (ma1 ⟨kit_tp (by decide +kernel) st_Stack_tuple, it_Stack⟩ ma0))))))))))
  have I_Row : IsT K [.ref c.Row] (tyTab (fun _ => false) (ct_Row c)) := isT_own ic_Row tc_Row sb_NoneType_Row sb_bool_Row sb_int_Row sb_str_Row sb_list_Row sb_tuple_Row (ct_of (ma1 ⟨kit_own ic_Row tc_Row ss_Row_Row (.inr rfl), it_Row⟩ (ma1 ⟨kit_own ic_Row tc_Row ss_Keep_Row (.inr rfl), it_Keep⟩ (ma1 ⟨kit_own ic_Row tc_Row ss_Tries_Row (.inr rfl), it_Tries⟩ (ma1 ⟨kit_own ic_Row tc_Row ss_Limit_Row (.inr rfl), it_Limit⟩ (ma1 ⟨kit_own ic_Row tc_Row ss_Leave_Row (.inr rfl), it_Leave⟩ (ma1 ⟨kit_own ic_Row tc_Row ss_Soft_Row (.inr rfl), it_Soft⟩ (ma1 ⟨kit_own ic_Row tc_Row ss_Count_Row (.inr rfl), it_Count⟩ (ma1 ⟨kit_own ic_Row tc_Row ss_Lend_Row (.inr rfl), it_Lend⟩ ma0)))))))) (ma1 ⟨kit_own ic_Row tc_Row ss_Call_Row (.inl (bfR ne_Call_Row)), it_Call⟩ (ma1 ⟨kit_own ic_Row tc_Row ss_Stack_Row (.inl (bfR ne_Stack_Row)), it_Stack⟩ ma0)))
  have I_bool : CtOk K (.type "bool") (ctB c) := ctB_of (ma1 ⟨kit_tp (by decide +kernel) st_Row_bool, it_Row⟩ (ma1 ⟨kit_tp (by decide +kernel) st_Keep_bool, it_Keep⟩ (ma1 ⟨kit_tp (by decide +kernel) st_Tries_bool, it_Tries⟩ (ma1 ⟨kit_tp (by decide +kernel) st_Limit_bool, it_Limit⟩ (ma1 ⟨kit_tp (by decide +kernel) st_Leave_bool, it_Leave⟩ (ma1 ⟨kit_tp (by decide +kernel) st_Soft_bool, it_Soft⟩ (ma1 ⟨kit_tp (by decide +kernel) st_Count_bool, it_Count⟩ (ma1 ⟨kit_tp (by decide +kernel) st_Lend_bool, it_Lend⟩ (ma1 ⟨kit_tp (by decide +kernel) st_Call_bool, it_Call⟩ (ma1 ⟨kit_tp (by decide +kernel) st_Stack_bool, it_Stack⟩ ma0))))))))))
  have I_int : CtOk K (.type "int") (ctB c) := ctB_of (ma1 ⟨kit_tp (by decide +kernel) st_Row_int, it_Row⟩ (ma1 ⟨kit_tp (by decide +kernel) st_Keep_int, it_Keep⟩ (ma1 ⟨kit_tp (by decide +kernel) st_Tries_int, it_Tries⟩ (ma1 ⟨kit_tp (by decide +kernel) st_Limit_int, it_Limit⟩ (ma1 ⟨kit_tp (by decide +kernel) st_Leave_int, it_Leave⟩ (ma1 ⟨kit_tp (by decide +kernel) st_Soft_int, it_Soft⟩ (ma1 ⟨kit_tp (by decide +kernel) st_Count_int, it_Count⟩ (ma1 ⟨kit_tp (by decide +kernel) st_Lend_int, it_Lend⟩ (ma1 ⟨kit_tp (by decide +kernel) st_Call_int, it_Call⟩ (ma1 ⟨kit_tp (by decide +kernel) st_Stack_int, it_Stack⟩ ma0))))))))))
  have I_str : CtOk K (.type "str") (ctB c) := ctB_of (ma1 ⟨kit_tp (by decide +kernel) st_Row_str, it_Row⟩ (ma1 ⟨kit_tp (by decide +kernel) st_Keep_str, it_Keep⟩ (ma1 ⟨kit_tp (by decide +kernel) st_Tries_str, it_Tries⟩ (ma1 ⟨kit_tp (by decide +kernel) st_Limit_str, it_Limit⟩ (ma1 ⟨kit_tp (by decide +kernel) st_Leave_str, it_Leave⟩ (ma1 ⟨kit_tp (by decide +kernel) st_Soft_str, it_Soft⟩ (ma1 ⟨kit_tp (by decide +kernel) st_Count_str, it_Count⟩ (ma1 ⟨kit_tp (by decide +kernel) st_Lend_str, it_Lend⟩ (ma1 ⟨kit_tp (by decide +kernel) st_Call_str, it_Call⟩ (ma1 ⟨kit_tp (by decide +kernel) st_Stack_str, it_Stack⟩ ma0))))))))))
  have I_Lend : IsT K [.ref c.Lend] (tyTab (fun _ => false) (ct_Lend c)) := isT_own ic_Lend tc_Lend sb_NoneType_Lend sb_bool_Lend sb_int_Lend sb_str_Lend sb_list_Lend sb_tuple_Lend (ct_of (ma1 ⟨kit_own ic_Lend tc_Lend ss_Lend_Lend (.inr rfl), it_Lend⟩ ma0) (ma1 ⟨kit_own ic_Lend tc_Lend ss_Row_Lend (.inl (bfR ne_Row_Lend)), it_Row⟩ (ma1 ⟨kit_own ic_Lend tc_Lend ss_Keep_Lend (.inl (bfR ne_Keep_Lend)), it_Keep⟩ (ma1 ⟨kit_own ic_Lend tc_Lend ss_Tries_Lend (.inl (bfR ne_Tries_Lend)), it_Tries⟩ (ma1 ⟨kit_own ic_Lend tc_Lend ss_Limit_Lend (.inl (bfR ne_Limit_Lend)), it_Limit⟩ (ma1 ⟨kit_own ic_Lend tc_Lend ss_Leave_Lend (.inl (bfR ne_Leave_Lend)), it_Leave⟩ (ma1 ⟨kit_own ic_Lend tc_Lend ss_Soft_Lend (.inl (bfR ne_Soft_Lend)), it_Soft⟩ (ma1 ⟨kit_own ic_Lend tc_Lend ss_Count_Lend (.inl (bfR ne_Count_Lend)), it_Count⟩ (ma1 ⟨kit_own ic_Lend tc_Lend ss_Call_Lend (.inl (bfR ne_Call_Lend)), it_Call⟩ (ma1 ⟨kit_own ic_Lend tc_Lend ss_Stack_Lend (.inl (bfR ne_Stack_Lend)), it_Stack⟩ ma0))))))))))
  have I_Count : IsT K [.ref c.Count] (tyTab (fun _ => false) (ct_Count c)) := isT_own ic_Count tc_Count sb_NoneType_Count sb_bool_Count sb_int_Count sb_str_Count sb_list_Count sb_tuple_Count (ct_of (ma1 ⟨kit_own ic_Count tc_Count ss_Count_Count (.inr rfl), it_Count⟩ ma0) (ma1 ⟨kit_own ic_Count tc_Count ss_Row_Count (.inl (bfR ne_Row_Count)), it_Row⟩ (ma1 ⟨kit_own ic_Count tc_Count ss_Keep_Count (.inl (bfR ne_Keep_Count)), it_Keep⟩ (ma1 ⟨kit_own ic_Count tc_Count ss_Tries_Count (.inl (bfR ne_Tries_Count)), it_Tries⟩ (ma1 ⟨kit_own ic_Count tc_Count ss_Limit_Count (.inl (bfR ne_Limit_Count)), it_Limit⟩ (ma1 ⟨kit_own ic_Count tc_Count ss_Leave_Count (.inl (bfR ne_Leave_Count)), it_Leave⟩ (ma1 ⟨kit_own ic_Count tc_Count ss_Soft_Count (.inl (bfR ne_Soft_Count)), it_Soft⟩ (ma1 ⟨kit_own ic_Count tc_Count ss_Lend_Count (.inl (bfR ne_Lend_Count)), it_Lend⟩ (ma1 ⟨kit_own ic_Count tc_Count ss_Call_Count (.inl (bfR ne_Call_Count)), it_Call⟩ (ma1 ⟨kit_own ic_Count tc_Count ss_Stack_Count (.inl (bfR ne_Stack_Count)), it_Stack⟩ ma0))))))))))
  have I_Leave : IsT K [.ref c.Leave] (tyTab (fun _ => false) (ct_Leave c)) := isT_own ic_Leave tc_Leave sb_NoneType_Leave sb_bool_Leave sb_int_Leave sb_str_Leave sb_list_Leave sb_tuple_Leave (ct_of (ma1 ⟨kit_own ic_Leave tc_Leave ss_Leave_Leave (.inr rfl), it_Leave⟩ ma0) (ma1 ⟨kit_own ic_Leave tc_Leave ss_Row_Leave (.inl (bfR ne_Row_Leave)), it_Row⟩ (ma1 ⟨kit_own ic_Leave tc_Leave ss_Keep_Leave (.inl (bfR ne_Keep_Leave)), it_Keep⟩ (ma1 ⟨kit_own ic_Leave tc_Leave ss_Tries_Leave (.inl (bfR ne_Tries_Leave)), it_Tries⟩ (ma1 ⟨kit_own ic_Leave tc_Leave ss_Limit_Leave (.inl (bfR ne_Limit_Leave)), it_Limit⟩ (ma1 ⟨kit_own ic_Leave tc_Leave ss_Soft_Leave (.inl (bfR ne_Soft_Leave)), it_Soft⟩ (ma1 ⟨kit_own ic_Leave tc_Leave ss_Count_Leave (.inl (bfR ne_Count_Leave)), it_Count⟩ (ma1 ⟨kit_own ic_Leave tc_Leave ss_Lend_Leave (.inl (bfR ne_Lend_Leave)), it_Lend⟩ (ma1 ⟨kit_own ic_Leave tc_Leave ss_Call_Leave (.inl (bfR ne_Call_Leave)), it_Call⟩ (ma1 ⟨kit_own ic_Leave tc_Leave ss_Stack_Leave (.inl (bfR ne_Stack_Leave)), it_Stack⟩ ma0))))))))))
  have I_Soft : IsT K [.ref c.Soft] (tyTab (fun _ => false) (ct_Soft c)) := isT_own ic_Soft tc_Soft sb_NoneType_Soft sb_bool_Soft sb_int_Soft sb_str_Soft sb_list_Soft sb_tuple_Soft (ct_of (ma1 ⟨kit_own ic_Soft tc_Soft ss_Soft_Soft (.inr rfl), it_Soft⟩ ma0) (ma1 ⟨kit_own ic_Soft tc_Soft ss_Row_Soft (.inl (bfR ne_Row_Soft)), it_Row⟩ (ma1 ⟨kit_own ic_Soft tc_Soft ss_Keep_Soft (.inl (bfR ne_Keep_Soft)), it_Keep⟩ (ma1 ⟨kit_own ic_Soft tc_Soft ss_Tries_Soft (.inl (bfR ne_Tries_Soft)), it_Tries⟩ (ma1 ⟨kit_own ic_Soft tc_Soft ss_Limit_Soft (.inl (bfR ne_Limit_Soft)), it_Limit⟩ (ma1 ⟨kit_own ic_Soft tc_Soft ss_Leave_Soft (.inl (bfR ne_Leave_Soft)), it_Leave⟩ (ma1 ⟨kit_own ic_Soft tc_Soft ss_Count_Soft (.inl (bfR ne_Count_Soft)), it_Count⟩ (ma1 ⟨kit_own ic_Soft tc_Soft ss_Lend_Soft (.inl (bfR ne_Lend_Soft)), it_Lend⟩ (ma1 ⟨kit_own ic_Soft tc_Soft ss_Call_Soft (.inl (bfR ne_Call_Soft)), it_Call⟩ (ma1 ⟨kit_own ic_Soft tc_Soft ss_Stack_Soft (.inl (bfR ne_Stack_Soft)), it_Stack⟩ ma0))))))))))
  have I_Limit : IsT K [.ref c.Limit] (tyTab (fun _ => false) (ct_Limit c)) := isT_own ic_Limit tc_Limit sb_NoneType_Limit sb_bool_Limit sb_int_Limit sb_str_Limit sb_list_Limit sb_tuple_Limit (ct_of (ma1 ⟨kit_own ic_Limit tc_Limit ss_Limit_Limit (.inr rfl), it_Limit⟩ ma0) (ma1 ⟨kit_own ic_Limit tc_Limit ss_Row_Limit (.inl (bfR ne_Row_Limit)), it_Row⟩ (ma1 ⟨kit_own ic_Limit tc_Limit ss_Keep_Limit (.inl (bfR ne_Keep_Limit)), it_Keep⟩ (ma1 ⟨kit_own ic_Limit tc_Limit ss_Tries_Limit (.inl (bfR ne_Tries_Limit)), it_Tries⟩ (ma1 ⟨kit_own ic_Limit tc_Limit ss_Leave_Limit (.inl (bfR ne_Leave_Limit)), it_Leave⟩ (ma1 ⟨kit_own ic_Limit tc_Limit ss_Soft_Limit (.inl (bfR ne_Soft_Limit)), it_Soft⟩ (ma1 ⟨kit_own ic_Limit tc_Limit ss_Count_Limit (.inl (bfR ne_Count_Limit)), it_Count⟩ (ma1 ⟨kit_own ic_Limit tc_Limit ss_Lend_Limit (.inl (bfR ne_Lend_Limit)), it_Lend⟩ (ma1 ⟨kit_own ic_Limit tc_Limit ss_Call_Limit (.inl (bfR ne_Call_Limit)), it_Call⟩ (ma1 ⟨kit_own ic_Limit tc_Limit ss_Stack_Limit (.inl (bfR ne_Stack_Limit)), it_Stack⟩ ma0))))))))))
  have I_Tries : IsT K [.ref c.Tries] (tyTab (fun _ => false) (ct_Tries c)) := isT_own ic_Tries tc_Tries sb_NoneType_Tries sb_bool_Tries sb_int_Tries sb_str_Tries sb_list_Tries sb_tuple_Tries (ct_of (ma1 ⟨kit_own ic_Tries tc_Tries ss_Tries_Tries (.inr rfl), it_Tries⟩ ma0) (ma1 ⟨kit_own ic_Tries tc_Tries ss_Row_Tries (.inl (bfR ne_Row_Tries)), it_Row⟩ (ma1 ⟨kit_own ic_Tries tc_Tries ss_Keep_Tries (.inl (bfR ne_Keep_Tries)), it_Keep⟩ (ma1 ⟨kit_own ic_Tries tc_Tries ss_Limit_Tries (.inl (bfR ne_Limit_Tries)), it_Limit⟩ (ma1 ⟨kit_own ic_Tries tc_Tries ss_Leave_Tries (.inl (bfR ne_Leave_Tries)), it_Leave⟩ (ma1 ⟨kit_own ic_Tries tc_Tries ss_Soft_Tries (.inl (bfR ne_Soft_Tries)), it_Soft⟩ (ma1 ⟨kit_own ic_Tries tc_Tries ss_Count_Tries (.inl (bfR ne_Count_Tries)), it_Count⟩ (ma1 ⟨kit_own ic_Tries tc_Tries ss_Lend_Tries (.inl (bfR ne_Lend_Tries)), it_Lend⟩ (ma1 ⟨kit_own ic_Tries tc_Tries ss_Call_Tries (.inl (bfR ne_Call_Tries)), it_Call⟩ (ma1 ⟨kit_own ic_Tries tc_Tries ss_Stack_Tries (.inl (bfR ne_Stack_Tries)), it_Stack⟩ ma0))))))))))
  have I_Keep : IsT K [.ref c.Keep] (tyTab (fun _ => false) (ct_Keep c)) := isT_own ic_Keep tc_Keep sb_NoneType_Keep sb_bool_Keep sb_int_Keep sb_str_Keep sb_list_Keep sb_tuple_Keep (ct_of (ma1 ⟨kit_own ic_Keep tc_Keep ss_Keep_Keep (.inr rfl), it_Keep⟩ ma0) (ma1 ⟨kit_own ic_Keep tc_Keep ss_Row_Keep (.inl (bfR ne_Row_Keep)), it_Row⟩ (ma1 ⟨kit_own ic_Keep tc_Keep ss_Tries_Keep (.inl (bfR ne_Tries_Keep)), it_Tries⟩ (ma1 ⟨kit_own ic_Keep tc_Keep ss_Limit_Keep (.inl (bfR ne_Limit_Keep)), it_Limit⟩ (ma1 ⟨kit_own ic_Keep tc_Keep ss_Leave_Keep (.inl (bfR ne_Leave_Keep)), it_Leave⟩ (ma1 ⟨kit_own ic_Keep tc_Keep ss_Soft_Keep (.inl (bfR ne_Soft_Keep)), it_Soft⟩ (ma1 ⟨kit_own ic_Keep tc_Keep ss_Count_Keep (.inl (bfR ne_Count_Keep)), it_Count⟩ (ma1 ⟨kit_own ic_Keep tc_Keep ss_Lend_Keep (.inl (bfR ne_Lend_Keep)), it_Lend⟩ (ma1 ⟨kit_own ic_Keep tc_Keep ss_Call_Keep (.inl (bfR ne_Call_Keep)), it_Call⟩ (ma1 ⟨kit_own ic_Keep tc_Keep ss_Stack_Keep (.inl (bfR ne_Stack_Keep)), it_Stack⟩ ma0))))))))))
  have M_Row : mg "Row" = some (.ref C_Row) := mg_of X G a_Row
  have M_Lend : mg "Lend" = some (.ref C_Lend) := mg_of X G a_Lend
  have M_Count : mg "Count" = some (.ref C_Count) := mg_of X G a_Count
  have M_Leave : mg "Leave" = some (.ref C_Leave) := mg_of X G a_Leave
  have M_Soft : mg "Soft" = some (.ref C_Soft) := mg_of X G a_Soft
  have M_Limit : mg "Limit" = some (.ref C_Limit) := mg_of X G a_Limit
  have M_Tries : mg "Tries" = some (.ref C_Tries) := mg_of X G a_Tries
  have M_Keep : mg "Keep" = some (.ref C_Keep) := mg_of X G a_Keep
  have M_Stack : mg "Stack" = some (.ref C_Stack) := mg_of X G a_Stack
  have G_LIVES : GV K mg "LIVES" (.tup [(.int 0), (.int 1), (.int 2), (.int 3)]) := ⟨.ref K_LIVES, .ref K_LIVES, mg_of X G g_LIVES, rfl, (fun F => .tup (KTup.of (xs := [.int 0, .int 1, .int 2, .int 3]) l_LIVES (by simp) (.cons ⟨_, rfl⟩ (.cons ⟨_, rfl⟩ (.cons ⟨_, rfl⟩ (.cons ⟨_, rfl⟩ .nil)))) F) (.cons (.int _) (.cons (.int _) (.cons (.int _) (.cons (.int _) .nil)))))⟩
  have G_KEPT_ANSWERS : GV K mg "KEPT_ANSWERS" (.tup [(.str "good"), (.str "all")]) := ⟨.ref K_KEPT_ANSWERS, .ref K_KEPT_ANSWERS, mg_of X G g_KEPT_ANSWERS, rfl, (fun F => .tup (KTup.of (xs := [.str "good", .str "all"]) l_KEPT_ANSWERS (by simp) (.cons ⟨_, rfl⟩ (.cons ⟨_, rfl⟩ .nil)) F) (.cons (.str _) (.cons (.str _) .nil)))⟩
  have G_FAULTS : GV K mg "FAULTS" (.tup [(.str "fault"), (.str "all")]) := ⟨.ref K_FAULTS, .ref K_FAULTS, mg_of X G g_FAULTS, rfl, (fun F => .tup (KTup.of (xs := [.str "fault", .str "all"]) l_FAULTS (by simp) (.cons ⟨_, rfl⟩ (.cons ⟨_, rfl⟩ .nil)) F) (.cons (.str _) (.cons (.str _) .nil)))⟩
  have G_MOST_ASKED : GV K mg "MOST_ASKED" (.tup [(.int 1), (.int 2), (.int 3)]) := ⟨.ref K_MOST_ASKED, .ref K_MOST_ASKED, mg_of X G g_MOST_ASKED, rfl, (fun F => .tup (KTup.of (xs := [.int 1, .int 2, .int 3]) l_MOST_ASKED (by simp) (.cons ⟨_, rfl⟩ (.cons ⟨_, rfl⟩ (.cons ⟨_, rfl⟩ .nil))) F) (.cons (.int _) (.cons (.int _) (.cons (.int _) .nil))))⟩
  have G_MOST_TRIES : GV K mg "MOST_TRIES" (.tup [(.int 1), (.int 2), (.int 3), (.int 4), (.int 5), (.int 6)]) := ⟨.ref K_MOST_TRIES, .ref K_MOST_TRIES, mg_of X G g_MOST_TRIES, rfl, (fun F => .tup (KTup.of (xs := [.int 1, .int 2, .int 3, .int 4, .int 5, .int 6]) l_MOST_TRIES (by simp) (.cons ⟨_, rfl⟩ (.cons ⟨_, rfl⟩ (.cons ⟨_, rfl⟩ (.cons ⟨_, rfl⟩ (.cons ⟨_, rfl⟩ (.cons ⟨_, rfl⟩ .nil)))))) F) (.cons (.int _) (.cons (.int _) (.cons (.int _) (.cons (.int _) (.cons (.int _) (.cons (.int _) .nil)))))))⟩
  have G_BAD : GV K mg "BAD" (.tup [(.str "fault"), (.str "late"), (.str "denied")]) := ⟨.ref K_BAD, .ref K_BAD, mg_of X G g_BAD, rfl, (fun F => .tup (KTup.of (xs := [.str "fault", .str "late", .str "denied"]) l_BAD (by simp) (.cons ⟨_, rfl⟩ (.cons ⟨_, rfl⟩ (.cons ⟨_, rfl⟩ .nil))) F) (.cons (.str _) (.cons (.str _) (.cons (.str _) .nil))))⟩
  have G_CALLERS : GV K mg "CALLERS" (.tup [(.str "in"), (.str "out")]) := ⟨.ref K_CALLERS, .ref K_CALLERS, mg_of X G g_CALLERS, rfl, (fun F => .tup (KTup.of (xs := [.str "in", .str "out"]) l_CALLERS (by simp) (.cons ⟨_, rfl⟩ (.cons ⟨_, rfl⟩ .nil)) F) (.cons (.str _) (.cons (.str _) .nil)))⟩
  have G_WISHES : GV K mg "WISHES" (.tup [(.str "calm"), (.str "fresh"), (.str "kept"), (.str "leave"), (.str "once"), (.str "spare"), (.str "tries")]) := ⟨.ref K_WISHES, .ref K_WISHES, mg_of X G g_WISHES, rfl, (fun F => .tup (KTup.of (xs := [.str "calm", .str "fresh", .str "kept", .str "leave", .str "once", .str "spare", .str "tries"]) l_WISHES (by simp) (.cons ⟨_, rfl⟩ (.cons ⟨_, rfl⟩ (.cons ⟨_, rfl⟩ (.cons ⟨_, rfl⟩ (.cons ⟨_, rfl⟩ (.cons ⟨_, rfl⟩ (.cons ⟨_, rfl⟩ .nil))))))) F) (.cons (.str _) (.cons (.str _) (.cons (.str _) (.cons (.str _) (.cons (.str _) (.cons (.str _) (.cons (.str _) .nil))))))))⟩
  obtain ⟨es_BOUNDS, dn_BOUNDS, kd_BOUNDS⟩ := He.dicW_ok dw_BOUNDS
  have KD_BOUNDS : KDv K w mg "BOUNDS" (tabD_BOUNDS c) := ⟨KDBOUNDS, mg_of X G gd_BOUNDS, (kt1 ⟨_, kdct_of (v := .int 1) kd_BOUNDS dk_BOUNDS_0 ⟨_, rfl⟩, fun _ => .int _⟩ (kt1 ⟨_, kdct_of (v := .int 2) kd_BOUNDS dk_BOUNDS_1 ⟨_, rfl⟩, fun _ => .int _⟩ (kt1 ⟨_, kdct_of (v := .int 3) kd_BOUNDS dk_BOUNDS_2 ⟨_, rfl⟩, fun _ => .int _⟩ (kt1 ⟨_, kdct_of (v := .int 4) kd_BOUNDS dk_BOUNDS_3 ⟨_, rfl⟩, fun _ => .int _⟩ (kt1 ⟨_, kdct_of (v := .int 5) kd_BOUNDS dk_BOUNDS_4 ⟨_, rfl⟩, fun _ => .int _⟩ (kt1 ⟨_, kdct_of (v := .int 6) kd_BOUNDS dk_BOUNDS_5 ⟨_, rfl⟩, fun _ => .int _⟩ kt0))))))⟩
  have KI_BOUNDS : KDi K w mg "BOUNDS" tabI_BOUNDS := ⟨KDBOUNDS, es_BOUNDS, dn_BOUNDS, mg_of X G gd_BOUNDS, kd_BOUNDS, (kb1 ⟨_, dk_BOUNDS_0, rfl⟩ (kb1 ⟨_, dk_BOUNDS_1, rfl⟩ (kb1 ⟨_, dk_BOUNDS_2, rfl⟩ (kb1 ⟨_, dk_BOUNDS_3, rfl⟩ (kb1 ⟨_, dk_BOUNDS_4, rfl⟩ (kb1 ⟨_, dk_BOUNDS_5, rfl⟩ (kb1 ⟨_, di_BOUNDS_0, rfl⟩ (kb1 ⟨_, di_BOUNDS_1, rfl⟩ (kb1 ⟨_, di_BOUNDS_2, rfl⟩ (kb1 ⟨_, di_BOUNDS_3, rfl⟩ (kb1 ⟨_, di_BOUNDS_4, rfl⟩ (kb1 ⟨_, di_BOUNDS_5, rfl⟩ (kb1 ⟨_, di_BOUNDS_6, rfl⟩ (kb1 ⟨_, di_BOUNDS_7, rfl⟩ (kb1 ⟨_, di_BOUNDS_8, rfl⟩ kb0)))))))))))))))⟩
  obtain ⟨es_BREAKS, dn_BREAKS, kd_BREAKS⟩ := He.dicW_ok dw_BREAKS
  have KD_BREAKS : KDv K w mg "BREAKS" (tabD_BREAKS c) := ⟨KDBREAKS, mg_of X G gd_BREAKS, (kt1 ⟨_, kdct_of (v := .ref A_breaks_calm) kd_BREAKS dk_BREAKS_0 rfl, fun _ => .cst _⟩ (kt1 ⟨_, kdct_of (v := .ref A_breaks_fresh) kd_BREAKS dk_BREAKS_1 rfl, fun _ => .cst _⟩ (kt1 ⟨_, kdct_of (v := .ref A_breaks_kept) kd_BREAKS dk_BREAKS_2 rfl, fun _ => .cst _⟩ (kt1 ⟨_, kdct_of (v := .ref A_breaks_leave) kd_BREAKS dk_BREAKS_3 rfl, fun _ => .cst _⟩ (kt1 ⟨_, kdct_of (v := .ref A_breaks_once) kd_BREAKS dk_BREAKS_4 rfl, fun _ => .cst _⟩ (kt1 ⟨_, kdct_of (v := .ref A_breaks_spare) kd_BREAKS dk_BREAKS_5 rfl, fun _ => .cst _⟩ (kt1 ⟨_, kdct_of (v := .ref A_breaks_tries) kd_BREAKS dk_BREAKS_6 rfl, fun _ => .cst _⟩ kt0)))))))⟩
  have KI_BREAKS : KDi K w mg "BREAKS" tabI_BREAKS := ⟨KDBREAKS, es_BREAKS, dn_BREAKS, mg_of X G gd_BREAKS, kd_BREAKS, (kb1 ⟨_, dk_BREAKS_0, rfl⟩ (kb1 ⟨_, dk_BREAKS_1, rfl⟩ (kb1 ⟨_, dk_BREAKS_2, rfl⟩ (kb1 ⟨_, dk_BREAKS_3, rfl⟩ (kb1 ⟨_, dk_BREAKS_4, rfl⟩ (kb1 ⟨_, dk_BREAKS_5, rfl⟩ (kb1 ⟨_, dk_BREAKS_6, rfl⟩ (kb1 ⟨_, di_BREAKS_0, rfl⟩ (kb1 ⟨_, di_BREAKS_1, rfl⟩ (kb1 ⟨_, di_BREAKS_2, rfl⟩ (kb1 ⟨_, di_BREAKS_3, rfl⟩ (kb1 ⟨_, di_BREAKS_4, rfl⟩ (kb1 ⟨_, di_BREAKS_5, rfl⟩ (kb1 ⟨_, di_BREAKS_6, rfl⟩ (kb1 ⟨_, di_BREAKS_7, rfl⟩ kb0)))))))))))))))⟩
  obtain ⟨es_FAULTS_OF, dn_FAULTS_OF, kd_FAULTS_OF⟩ := He.dicW_ok dw_FAULTS_OF
  have KD_FAULTS_OF : KDv K w mg "FAULTS_OF" (tabD_FAULTS_OF c) := ⟨KDFAULTS_OF, mg_of X G gd_FAULTS_OF, (kt1 ⟨_, kdct_of (v := .ref KVFAULTS_OF0) kd_FAULTS_OF dk_FAULTS_OF_0 rfl, fun F => .tup (KTup.of (xs := [.str "fault", .str "late"]) dl_FAULTS_OF_0 (by simp) (.cons ⟨_, rfl⟩ (.cons ⟨_, rfl⟩ .nil)) F) (.cons (.str _) (.cons (.str _) .nil))⟩ (kt1 ⟨_, kdct_of (v := .ref KVFAULTS_OF1) kd_FAULTS_OF dk_FAULTS_OF_1 rfl, fun F => .tup (KTup.of (xs := [.str "fault", .str "late", .str "denied"]) dl_FAULTS_OF_1 (by simp) (.cons ⟨_, rfl⟩ (.cons ⟨_, rfl⟩ (.cons ⟨_, rfl⟩ .nil))) F) (.cons (.str _) (.cons (.str _) (.cons (.str _) .nil)))⟩ kt0))⟩
  have MO_Lend : Own.MkO K c.Lend := mo_Lend
  have MO_Count : Own.MkO K c.Count := mo_Count
  have MO_Leave : Own.MkO K c.Leave := mo_Leave
  have HP : P = WW.p := rfl
  have HW : w = WW.w := rfl
  have B : Bn mg := ⟨mg_none_of X G z_int, mg_none_of X G z_abs, mg_none_of X G z_len, mg_none_of X G z_range, mg_none_of X G z_list, mg_none_of X G z_tuple, mg_none_of X G z_str, mg_none_of X G z_max, mg_none_of X G z_min, mg_none_of X G z_sorted, mg_none_of X G z_enumerate, mg_none_of X G z_zip, mg_none_of X G z_isinstance, mg_none_of X G z_bool, mg_none_of X G z_any, mg_none_of X G z_all, mg_none_of X G z_sum⟩
  have TBx_reached_standings : LamX.TabB base mg cL_reached_standings PL_reached_standings := HT (cL_reached_standings, PL_reached_standings) (by simp)
  have TBm_reached_standings : (PL_reached_standings, ((("reached_standings" : Str) ++ (".<locals>." : Str)) ++ ("<lambda>" : Str))) ∈ WW.tb := (show (PL_reached_standings, ((("reached_standings" : Str) ++ (".<locals>." : Str)) ++ ("<lambda>" : Str))) ∈ [(PL_reached_standings, ((("reached_standings" : Str) ++ (".<locals>." : Str)) ++ ("<lambda>" : Str)))] by simp)
  have TB1_reached_standings : ∀ p ∈ WW.tb, p.1 = PL_reached_standings → p.2 = ((("reached_standings" : Str) ++ (".<locals>." : Str)) ++ ("<lambda>" : Str)) := fun p hp e => (tbOne_of (l := [(PL_reached_standings, ((("reached_standings" : Str) ++ (".<locals>." : Str)) ++ ("<lambda>" : Str)))]) (by simp []) p hp e)
  have b_deal : Binds K fd_deal ["_law_script", "_law_base"] [] := F_deal.binds (ps := ["_law_script", "_law_base"]) fun _ _ _ _ _ _ us hl => match us, hl with | [_, _], _ => rfl
  have g_deal := okv_deal (P := P) (w := w) (base := base) (c := c) F_deal B
  have D_deal : DV P w K mg base "_law_deal" 1 2 (f_deal c) := ⟨_, _, _, mg_of X G a_fn__law_deal, F_deal.kp, g_deal, b_deal⟩
  have b_draw : Binds K fd_draw ["_law_deal_here", "_law_wide"] [] := F_draw.binds (ps := ["_law_deal_here", "_law_wide"]) fun _ _ _ _ _ _ us hl => match us, hl with | [_, _], _ => rfl
  have g_draw := okv_draw (P := P) (w := w) (base := base) (c := c) F_draw B
  have D_draw : DV P w K mg base "_law_draw" 1 2 (f_draw c) := ⟨_, _, _, mg_of X G a_fn__law_draw, F_draw.kp, g_draw, b_draw⟩
  have b_mixed : Binds K fd_mixed ["_law_deal_here", "_law_some"] [] := F_mixed.binds (ps := ["_law_deal_here", "_law_some"]) fun _ _ _ _ _ _ us hl => match us, hl with | [_, _], _ => rfl
  have g_mixed := okv_mixed (P := P) (w := w) (base := base) (c := c) F_mixed B D_draw
  have D_mixed : DV P w K mg base "_law_mixed" 2 2 (f_mixed c) := ⟨_, _, _, mg_of X G a_fn__law_mixed, F_mixed.kp, g_mixed, b_mixed⟩
  have b_cases : Binds K fd_cases [] [] := F_cases.binds (ps := []) fun _ _ _ _ _ _ us hl => match us, hl with | [], _ => rfl
  have g_cases := okv_cases (P := P) (w := w) (base := base) (c := c) F_cases B
  have D_cases : DV P w K mg base "_law_cases" 1 0 (f_cases c) := ⟨_, _, _, mg_of X G a_fn__law_cases, F_cases.kp, g_cases, b_cases⟩
  have b_is_sequence : Binds K fd_is_sequence ["value"] [] := F_is_sequence.binds (ps := ["value"]) fun _ _ _ _ _ _ us hl => match us, hl with | [_], _ => rfl
  have g_is_sequence := okv_is_sequence (P := P) (w := w) (base := base) (c := c) F_is_sequence B I_list I_tuple
  have D_is_sequence : DV P w K mg base "is_sequence" 1 1 (f_is_sequence c) := ⟨_, _, _, mg_of X G a_fn_is_sequence, F_is_sequence.kp, g_is_sequence, b_is_sequence⟩
  have b_rows_of : Binds K fd_rows_of ["value"] [] := F_rows_of.binds (ps := ["value"]) fun _ _ _ _ _ _ us hl => match us, hl with | [_], _ => rfl
  have g_rows_of := okv_rows_of (P := P) (w := w) (base := base) (c := c) F_rows_of B D_is_sequence I_Row M_Row
  have D_rows_of : DV P w K mg base "rows_of" 2 1 (f_rows_of c) := ⟨_, _, _, mg_of X G a_fn_rows_of, F_rows_of.kp, g_rows_of, b_rows_of⟩
  obtain ⟨e0_Stack_init, v0_Stack_init, b_Stack_init⟩ := F_Stack_init.binds1 (ps := ["self", "rows"]) 2 1 (List.cons_ne_nil _ _) rfl fun T kV doc pm an cdv ct us its h1 h2 => match us, its, h1, h2 with | [_, _], [_], _, _ => ⟨_, rfl, rfl⟩
  cases v0_Stack_init
  have g_Stack_init := okv_Stack_init (P := P) (w := w) (base := base) (c := c) F_Stack_init B D_rows_of O_rows
  have b_check_argument : Binds K fd_check_argument ["word", "is_right"] [] := F_check_argument.binds (ps := ["word", "is_right"]) fun _ _ _ _ _ _ us hl => match us, hl with | [_, _], _ => rfl
  have g_check_argument := okv_check_argument (P := P) (w := w) (base := base) (c := c) F_check_argument B
  have D_check_argument : DV P w K mg base "check_argument" 1 2 (f_check_argument c) := ⟨_, _, _, mg_of X G a_fn_check_argument, F_check_argument.kp, g_check_argument, b_check_argument⟩
  have b_is_integer : Binds K fd_is_integer ["value"] [] := F_is_integer.binds (ps := ["value"]) fun _ _ _ _ _ _ us hl => match us, hl with | [_], _ => rfl
  have g_is_integer := okv_is_integer (P := P) (w := w) (base := base) (c := c) F_is_integer B I_bool I_int
  have D_is_integer : DV P w K mg base "is_integer" 1 1 (f_is_integer c) := ⟨_, _, _, mg_of X G a_fn_is_integer, F_is_integer.kp, g_is_integer, b_is_integer⟩
  have b_is_one_of : Binds K fd_is_one_of ["value", "numbers"] [] := F_is_one_of.binds (ps := ["value", "numbers"]) fun _ _ _ _ _ _ us hl => match us, hl with | [_, _], _ => rfl
  have g_is_one_of := okv_is_one_of (P := P) (w := w) (base := base) (c := c) F_is_one_of B D_is_integer
  have D_is_one_of : DV P w K mg base "is_one_of" 2 2 (f_is_one_of c) := ⟨_, _, _, mg_of X G a_fn_is_one_of, F_is_one_of.kp, g_is_one_of, b_is_one_of⟩
  obtain ⟨e0_Keep_init, v0_Keep_init, b_Keep_init⟩ := F_Keep_init.binds1 (ps := ["self", "what", "life"]) 3 2 (List.cons_ne_nil _ _) rfl fun T kV doc pm an cdv ct us its h1 h2 => match us, its, h1, h2 with | [_, _, _], [_, _], _, _ => ⟨_, rfl, rfl⟩
  cases v0_Keep_init
  have g_Keep_init := okv_Keep_init (P := P) (w := w) (base := base) (c := c) F_Keep_init B D_check_argument D_is_one_of O_life O_what G_LIVES G_KEPT_ANSWERS
  obtain ⟨e0_Tries_init, v0_Tries_init, b_Tries_init⟩ := F_Tries_init.binds1 (ps := ["self", "many", "on"]) 3 1 (List.cons_ne_nil _ _) rfl fun T kV doc pm an cdv ct us its h1 h2 => match us, its, h1, h2 with | [_, _, _], [_], _, _ => ⟨_, rfl, rfl⟩
  cases v0_Tries_init
  have g_Tries_init := okv_Tries_init (P := P) (w := w) (base := base) (c := c) F_Tries_init B D_check_argument D_is_one_of O_on O_many G_FAULTS G_MOST_ASKED
  have b_Limit_init : Binds K fd_Limit_init ["self", "many"] [] := F_Limit_init.binds (ps := ["self", "many"]) fun _ _ _ _ _ _ us hl => match us, hl with | [_, _], _ => rfl
  have g_Limit_init := okv_Limit_init (P := P) (w := w) (base := base) (c := c) F_Limit_init B D_check_argument D_is_one_of O_many G_MOST_TRIES
  obtain ⟨e0_Soft_init, v0_Soft_init, b_Soft_init⟩ := F_Soft_init.binds1 (ps := ["self", "on"]) 2 1 (List.cons_ne_nil _ _) rfl fun T kV doc pm an cdv ct us its h1 h2 => match us, its, h1, h2 with | [_, _], [_], _, _ => ⟨_, rfl, rfl⟩
  cases v0_Soft_init
  have g_Soft_init := okv_Soft_init (P := P) (w := w) (base := base) (c := c) F_Soft_init B D_check_argument O_on G_FAULTS
  have MI_Soft : MI P w K mg base 2 2 "Soft" c.Soft (f_Soft_init c) := ⟨_, _, _, mk_Soft, g_Soft_init, b_Soft_init, mg_of X G a_Soft⟩
  have MI_Limit : MI P w K mg base 3 2 "Limit" c.Limit (f_Limit_init c) := ⟨_, _, _, mk_Limit, g_Limit_init, b_Limit_init, mg_of X G a_Limit⟩
  have MI_Tries : MI P w K mg base 3 3 "Tries" c.Tries (f_Tries_init c) := ⟨_, _, _, mk_Tries, g_Tries_init, b_Tries_init, mg_of X G a_Tries⟩
  have MI_Keep : MI P w K mg base 3 3 "Keep" c.Keep (f_Keep_init c) := ⟨_, _, _, mk_Keep, g_Keep_init, b_Keep_init, mg_of X G a_Keep⟩
  have b_every_row : Binds K fd_every_row [] [] := F_every_row.binds (ps := []) fun _ _ _ _ _ _ us hl => match us, hl with | [], _ => rfl
  have g_every_row := okv_every_row (P := P) (w := w) (base := base) (c := c) F_every_row B MO_Lend M_Lend MO_Count M_Count MO_Leave M_Leave G_FAULTS MI_Soft G_MOST_TRIES MI_Limit G_MOST_ASKED MI_Tries G_KEPT_ANSWERS G_LIVES MI_Keep
  have D_every_row : DV P w K mg base "every_row" 5 0 (f_every_row c) := ⟨_, _, _, mg_of X G a_fn_every_row, F_every_row.kp, g_every_row, b_every_row⟩
  have b_Keep_words : Binds K fd_Keep_words ["self"] [] := F_Keep_words.binds (ps := ["self"]) fun _ _ _ _ _ _ us hl => match us, hl with | [_], _ => rfl
  have g_Keep_words := okv_Keep_words (P := P) (w := w) (base := base) (c := c) F_Keep_words B O_what O_life
  have b_Tries_words : Binds K fd_Tries_words ["self"] [] := F_Tries_words.binds (ps := ["self"]) fun _ _ _ _ _ _ us hl => match us, hl with | [_], _ => rfl
  have g_Tries_words := okv_Tries_words (P := P) (w := w) (base := base) (c := c) F_Tries_words B O_on O_many
  have b_Limit_words : Binds K fd_Limit_words ["self"] [] := F_Limit_words.binds (ps := ["self"]) fun _ _ _ _ _ _ us hl => match us, hl with | [_], _ => rfl
  have g_Limit_words := okv_Limit_words (P := P) (w := w) (base := base) (c := c) F_Limit_words B O_many
  have b_Leave_words : Binds K fd_Leave_words ["self"] [] := F_Leave_words.binds (ps := ["self"]) fun _ _ _ _ _ _ us hl => match us, hl with | [_], _ => rfl
  have g_Leave_words := okv_Leave_words (P := P) (w := w) (base := base) (c := c) F_Leave_words B
  have b_Soft_words : Binds K fd_Soft_words ["self"] [] := F_Soft_words.binds (ps := ["self"]) fun _ _ _ _ _ _ us hl => match us, hl with | [_], _ => rfl
  have g_Soft_words := okv_Soft_words (P := P) (w := w) (base := base) (c := c) F_Soft_words B O_on
  have b_Count_words : Binds K fd_Count_words ["self"] [] := F_Count_words.binds (ps := ["self"]) fun _ _ _ _ _ _ us hl => match us, hl with | [_], _ => rfl
  have g_Count_words := okv_Count_words (P := P) (w := w) (base := base) (c := c) F_Count_words B
  have b_Lend_words : Binds K fd_Lend_words ["self"] [] := F_Lend_words.binds (ps := ["self"]) fun _ _ _ _ _ _ us hl => match us, hl with | [_], _ => rfl
  have g_Lend_words := okv_Lend_words (P := P) (w := w) (base := base) (c := c) F_Lend_words B
  have T_words : ∀ C vf, tb_words c C = some vf → MVd P w K mg base 1 "words" 1 C vf := (tb1 ⟨cl_Keep, _, _, _, _, by decide, mt_Keep_words, g_Keep_words, b_Keep_words⟩ (tb1 ⟨cl_Tries, _, _, _, _, by decide, mt_Tries_words, g_Tries_words, b_Tries_words⟩ (tb1 ⟨cl_Limit, _, _, _, _, by decide, mt_Limit_words, g_Limit_words, b_Limit_words⟩ (tb1 ⟨cl_Leave, _, _, _, _, by decide, mt_Leave_words, g_Leave_words, b_Leave_words⟩ (tb1 ⟨cl_Soft, _, _, _, _, by decide, mt_Soft_words, g_Soft_words, b_Soft_words⟩ (tb1 ⟨cl_Count, _, _, _, _, by decide, mt_Count_words, g_Count_words, b_Count_words⟩ (tb1 ⟨cl_Lend, _, _, _, _, by decide, mt_Lend_words, g_Lend_words, b_Lend_words⟩ tb0)))))))
  have b_Row_str : Binds K fd_Row_str ["self"] [] := F_Row_str.binds (ps := ["self"]) fun _ _ _ _ _ _ us hl => match us, hl with | [_], _ => rfl
  have g_Row_str := okv_Row_str (P := P) (w := w) (base := base) (c := c) F_Row_str B T_words
  let S_Row : DM P w K mg base 2 1 (f_Row_str c) := ⟨A_Row_str, _, _, g_Row_str, b_Row_str⟩
  have W_Row : ∀ C, ok_Row c C = true → ∃ ge, Own.OwnC K C A_Row_str ge := own_of (P := P) (w := w) (mg := mg) (base := base) (ma1 ⟨_, own_Row⟩ (ma1 ⟨_, own_Keep⟩ (ma1 ⟨_, own_Tries⟩ (ma1 ⟨_, own_Limit⟩ (ma1 ⟨_, own_Leave⟩ (ma1 ⟨_, own_Soft⟩ (ma1 ⟨_, own_Count⟩ (ma1 ⟨_, own_Lend⟩ ma0))))))))
  have b_Row_read : Binds K fd_Row_read ["cls", "text"] [] := F_Row_read.binds (ps := ["cls", "text"]) fun _ _ _ _ _ _ us hl => match us, hl with | [_, _], _ => rfl
  have g_Row_read := okv_Row_read (P := P) (w := w) (base := base) (c := c) F_Row_read B D_every_row S_Row W_Row
  have C_Row_read : CM P w K mg base 6 2 "read" c.Row (f_Row_read c) := ⟨_, _, _, _, _, cr_Row_read, cmt_Row_read, g_Row_read, b_Row_read⟩
  have b_rows_in : Binds K fd_rows_in ["lines"] [] := F_rows_in.binds (ps := ["lines"]) fun _ _ _ _ _ _ us hl => match us, hl with | [_], _ => rfl
  have g_rows_in := okv_rows_in (P := P) (w := w) (base := base) (c := c) F_rows_in B C_Row_read M_Row
  have D_rows_in : DV P w K mg base "rows_in" 7 1 (f_rows_in c) := ⟨_, _, _, mg_of X G a_fn_rows_in, F_rows_in.kp, g_rows_in, b_rows_in⟩
  obtain ⟨e_MD_Stack_0, v_MD_Stack_0, b_MD_Stack_0⟩ := F_Stack_init.binds1 (ps := ["self", "rows"]) 2 1 (List.cons_ne_nil _ _) rfl fun T kV doc pm an cdv ct us its h1 h2 => match us, its, h1, h2 with | [_, _], [_], _, _ => ⟨_, rfl, rfl⟩
  have MD_Stack_0 : MD P w K mg base 3 2 c.Stack (f_Stack_init c) [] := ⟨_, _, _, _, _, mk_Stack, g_Stack_init, b_MD_Stack_0, v_MD_Stack_0, fun F => .nil⟩
  obtain ⟨e_MD_Stack_1, v_MD_Stack_1, b_MD_Stack_1⟩ := F_Stack_init.binds1 (ps := ["self", "rows"]) 1 0 (List.cons_ne_nil _ _) rfl fun T kV doc pm an cdv ct us its h1 h2 => match us, its, h1, h2 with | [_], [_], _, _ => ⟨_, rfl, rfl⟩
  have MD_Stack_1 : MD P w K mg base 3 2 c.Stack (f_Stack_init c) [(.tup [])] := ⟨_, _, _, _, _, mk_Stack, g_Stack_init, b_MD_Stack_1, v_MD_Stack_1, fun F => (.cons (.tup (KTup.of (xs := []) l0_Stack_init (by simp) .nil F) .nil) .nil)⟩
  have b_Stack_read : Binds K fd_Stack_read ["cls", "text"] [] := F_Stack_read.binds (ps := ["cls", "text"]) fun _ _ _ _ _ _ us hl => match us, hl with | [_, _], _ => rfl
  have g_Stack_read := okv_Stack_read (P := P) (w := w) (base := base) (c := c) F_Stack_read B D_rows_in MD_Stack_0 MD_Stack_1
  have b_is_wish : Binds K fd_is_wish ["value"] [] := F_is_wish.binds (ps := ["value"]) fun _ _ _ _ _ _ us hl => match us, hl with | [_], _ => rfl
  have g_is_wish := okv_is_wish (P := P) (w := w) (base := base) (c := c) F_is_wish B KI_BOUNDS KI_BREAKS I_str
  have D_is_wish : DV P w K mg base "is_wish" 1 1 (f_is_wish c) := ⟨_, _, _, mg_of X G a_fn_is_wish, F_is_wish.kp, g_is_wish, b_is_wish⟩
  have b_check_wish : Binds K fd_check_wish ["value"] [] := F_check_wish.binds (ps := ["value"]) fun _ _ _ _ _ _ us hl => match us, hl with | [_], _ => rfl
  have g_check_wish := okv_check_wish (P := P) (w := w) (base := base) (c := c) F_check_wish B D_is_wish
  have D_check_wish : DV P w K mg base "check_wish" 2 1 (f_check_wish c) := ⟨_, _, _, mg_of X G a_fn_check_wish, F_check_wish.kp, g_check_wish, b_check_wish⟩
  have b_reached : Binds K fd_reached ["start", "steps_from"] [] := F_reached.binds (ps := ["start", "steps_from"]) fun _ _ _ _ _ _ us hl => match us, hl with | [_, _], _ => rfl
  have DF_reached : FL P w K mg base "reached" 1 2 1 (f_reached c) := ⟨_, _, _, mg_of X G a_fn_reached, F_reached.kp, b_reached, rfl, (fun g => (letI : WW := WW.at_ g; okv_reached (P := P) (w := w) (base := base) (c := c) F_reached B HP HW)), fun f vf args m h => ind_reach f vf args m h⟩
  have b_begun : Binds K fd_begun ["stack"] [] := F_begun.binds (ps := ["stack"]) fun _ _ _ _ _ _ us hl => match us, hl with | [_], _ => rfl
  have g_begun := okv_begun (P := P) (w := w) (base := base) (c := c) F_begun B O_rows
  have D_begun : DV P w K mg base "begun" 1 1 (f_begun c) := ⟨_, _, _, mg_of X G a_fn_begun, F_begun.kp, g_begun, b_begun⟩
  have b_Call_make_try : Binds K fd_Call_make_try ["self"] [] := F_Call_make_try.binds (ps := ["self"]) fun _ _ _ _ _ _ us hl => match us, hl with | [_], _ => rfl
  have g_Call_make_try := okv_Call_make_try (P := P) (w := w) (base := base) (c := c) F_Call_make_try B O_outcomes O_tries O_limits O_many O_rows O_cut_by
  have b_may_store : Binds K fd_may_store ["row", "answer"] [] := F_may_store.binds (ps := ["row", "answer"]) fun _ _ _ _ _ _ us hl => match us, hl with | [_, _], _ => rfl
  have g_may_store := okv_may_store (P := P) (w := w) (base := base) (c := c) F_may_store B G_BAD O_what
  have D_may_store : DV P w K mg base "may_store" 1 2 (f_may_store c) := ⟨_, _, _, mg_of X G a_fn_may_store, F_may_store.kp, g_may_store, b_may_store⟩
  have T_make_try : ∀ C vf, tb_make_try c C = some vf → MVd P w K mg base 1 "make_try" 1 C vf := (tb1 ⟨cl_Call, _, _, _, _, by decide, mt_Call_make_try, g_Call_make_try, b_Call_make_try⟩ tb0)
  have b_Call_ask : Binds K fd_Call_ask ["self", "at", "caller"] [] := F_Call_ask.binds (ps := ["self", "at", "caller"]) fun _ _ _ _ _ _ us hl => match us, hl with | [_, _, _], _ => rfl
  have b_Call_ask_keeper : Binds K fd_Call_ask_keeper ["self", "at", "caller"] [] := F_Call_ask_keeper.binds (ps := ["self", "at", "caller"]) fun _ _ _ _ _ _ us hl => match us, hl with | [_, _, _], _ => rfl
  have b_Call_ask_repeatedly : Binds K fd_Call_ask_repeatedly ["self", "at", "caller"] [] := F_Call_ask_repeatedly.binds (ps := ["self", "at", "caller"]) fun _ _ _ _ _ _ us hl => match us, hl with | [_, _, _], _ => rfl
  have b_Call_ask_limited : Binds K fd_Call_ask_limited ["self", "at", "caller"] [] := F_Call_ask_limited.binds (ps := ["self", "at", "caller"]) fun _ _ _ _ _ _ us hl => match us, hl with | [_, _, _], _ => rfl
  have b_Call_ask_softly : Binds K fd_Call_ask_softly ["self", "at", "caller"] [] := F_Call_ask_softly.binds (ps := ["self", "at", "caller"]) fun _ _ _ _ _ _ us hl => match us, hl with | [_, _, _], _ => rfl
  have fam_ok0 : ∀ n, FnOk P w K mg base (L2.CX P w) (2 * n + 1) A_Call_ask fd_Call_ask ["self", "at", "caller"] (SpV K 3 (fam0 c n).Call_ask) ∧ FnOk P w K mg base (L2.CX P w) (2 * n + 1) A_Call_ask_keeper fd_Call_ask_keeper ["self", "at", "caller"] (SpV K 3 (fam0 c n).Call_ask_keeper) ∧ FnOk P w K mg base (L2.CX P w) (2 * n + 1) A_Call_ask_repeatedly fd_Call_ask_repeatedly ["self", "at", "caller"] (SpV K 3 (fam0 c n).Call_ask_repeatedly) ∧ FnOk P w K mg base (L2.CX P w) (2 * n + 1) A_Call_ask_limited fd_Call_ask_limited ["self", "at", "caller"] (SpV K 3 (fam0 c n).Call_ask_limited) ∧ FnOk P w K mg base (L2.CX P w) (2 * n + 1) A_Call_ask_softly fd_Call_ask_softly ["self", "at", "caller"] (SpV K 3 (fam0 c n).Call_ask_softly) := by
    intro n
    induction n with
    | zero => exact ⟨none_ok F_Call_ask sc_Call_ask, none_ok F_Call_ask_keeper sc_Call_ask_keeper, none_ok F_Call_ask_repeatedly sc_Call_ask_repeatedly, none_ok F_Call_ask_limited sc_Call_ask_limited, none_ok F_Call_ask_softly sc_Call_ask_softly⟩
    | succ n ih =>
      obtain ⟨h_Call_ask, h_Call_ask_keeper, h_Call_ask_repeatedly, h_Call_ask_limited, h_Call_ask_softly⟩ := ih
      have T_ask : ∀ C vf, tb_ask c (fam0 c n) C = some vf → MVd P w K mg base (2 * n + 1) "ask" 3 C vf := (tb1 ⟨cl_Call, _, _, _, _, Nat.le_refl _, mt_Call_ask, h_Call_ask, b_Call_ask⟩ tb0)
      have T_ask_keeper : ∀ C vf, tb_ask_keeper c (fam0 c n) C = some vf → MVd P w K mg base (2 * n + 1) "ask_keeper" 3 C vf := (tb1 ⟨cl_Call, _, _, _, _, Nat.le_refl _, mt_Call_ask_keeper, h_Call_ask_keeper, b_Call_ask_keeper⟩ tb0)
      have T_ask_repeatedly : ∀ C vf, tb_ask_repeatedly c (fam0 c n) C = some vf → MVd P w K mg base (2 * n + 1) "ask_repeatedly" 3 C vf := (tb1 ⟨cl_Call, _, _, _, _, Nat.le_refl _, mt_Call_ask_repeatedly, h_Call_ask_repeatedly, b_Call_ask_repeatedly⟩ tb0)
      have T_ask_limited : ∀ C vf, tb_ask_limited c (fam0 c n) C = some vf → MVd P w K mg base (2 * n + 1) "ask_limited" 3 C vf := (tb1 ⟨cl_Call, _, _, _, _, Nat.le_refl _, mt_Call_ask_limited, h_Call_ask_limited, b_Call_ask_limited⟩ tb0)
      have T_ask_softly : ∀ C vf, tb_ask_softly c (fam0 c n) C = some vf → MVd P w K mg base (2 * n + 1) "ask_softly" 3 C vf := (tb1 ⟨cl_Call, _, _, _, _, Nat.le_refl _, mt_Call_ask_softly, h_Call_ask_softly, b_Call_ask_softly⟩ tb0)
      exact ⟨(okv_Call_ask F_Call_ask B I_Lend M_Lend T_ask I_Count M_Count O_counts I_Leave M_Leave I_Soft M_Soft T_ask_softly I_Limit M_Limit T_ask_limited I_Tries M_Tries T_ask_repeatedly I_Keep M_Keep T_ask_keeper O_rows T_make_try).mono (by omega), (okv_Call_ask_keeper F_Call_ask_keeper B D_may_store O_stored O_held O_life T_ask O_rows O_given).mono (by omega), (okv_Call_ask_repeatedly F_Call_ask_repeatedly B O_on KD_FAULTS_OF O_many T_ask O_rows).mono (by omega), (okv_Call_ask_limited F_Call_ask_limited B O_cut_by O_limits T_ask O_tries).mono (by omega), (okv_Call_ask_softly F_Call_ask_softly B O_on O_rows KD_FAULTS_OF T_ask).mono (by omega)⟩
  obtain ⟨g_Call_ask, g_Call_ask_keeper, g_Call_ask_repeatedly, g_Call_ask_limited, g_Call_ask_softly⟩ := fam_ok0 16
  have T_ask : ∀ C vf, tb_ask c (fam0 c 16) C = some vf → MVd P w K mg base 33 "ask" 3 C vf := (tb1 ⟨cl_Call, _, _, _, _, by decide, mt_Call_ask, g_Call_ask, b_Call_ask⟩ tb0)
  have b_Call_init : Binds K fd_Call_init ["self", "rows", "standing", "caller", "outcomes"] [] := F_Call_init.binds (ps := ["self", "rows", "standing", "caller", "outcomes"]) fun _ _ _ _ _ _ us hl => match us, hl with | [_, _, _, _, _], _ => rfl
  have g_Call_init := okv_Call_init (P := P) (w := w) (base := base) (c := c) F_Call_init B O_behind O_held O_answer T_ask O_cut_by O_limits O_stored O_given O_counts I_Count M_Count O_tries O_outcomes O_caller O_rows
  have MI_Call : MI P w K mg base 34 5 "Call" c.Call (f_Call_init c) := ⟨_, _, _, mk_Call, g_Call_init, b_Call_init, mg_of X G a_Call⟩
  have b_calls_of : Binds K fd_calls_of ["stack", "standing", "caller"] [] := F_calls_of.binds (ps := ["stack", "standing", "caller"]) fun _ _ _ _ _ _ us hl => match us, hl with | [_, _, _], _ => rfl
  have g_calls_of := okv_calls_of (P := P) (w := w) (base := base) (c := c) F_calls_of B O_rows MI_Call O_tries
  have D_calls_of : DV P w K mg base "calls_of" 36 3 (f_calls_of c) := ⟨_, _, _, mg_of X G a_fn_calls_of, F_calls_of.kp, g_calls_of, b_calls_of⟩
  have b_calls_from : Binds K fd_calls_from ["stack", "standing"] [] := F_calls_from.binds (ps := ["stack", "standing"]) fun _ _ _ _ _ _ us hl => match us, hl with | [_, _], _ => rfl
  have g_calls_from := okv_calls_from (P := P) (w := w) (base := base) (c := c) F_calls_from B D_calls_of G_CALLERS
  have D_calls_from : DV P w K mg base "calls_from" 37 2 (f_calls_from c) := ⟨_, _, _, mg_of X G a_fn_calls_from, F_calls_from.kp, g_calls_from, b_calls_from⟩
  have b_aged : Binds K fd_aged ["thing"] [] := F_aged.binds (ps := ["thing"]) fun _ _ _ _ _ _ us hl => match us, hl with | [_], _ => rfl
  have g_aged := okv_aged (P := P) (w := w) (base := base) (c := c) F_aged B
  have D_aged : DV P w K mg base "aged" 1 1 (f_aged c) := ⟨_, _, _, mg_of X G a_fn_aged, F_aged.kp, g_aged, b_aged⟩
  have b_ticked : Binds K fd_ticked ["standing"] [] := F_ticked.binds (ps := ["standing"]) fun _ _ _ _ _ _ us hl => match us, hl with | [_], _ => rfl
  have g_ticked := okv_ticked (P := P) (w := w) (base := base) (c := c) F_ticked B D_aged
  have D_ticked : DV P w K mg base "ticked" 2 1 (f_ticked c) := ⟨_, _, _, mg_of X G a_fn_ticked, F_ticked.kp, g_ticked, b_ticked⟩
  have b_event_of : Binds K fd_event_of ["call"] [] := F_event_of.binds (ps := ["call"]) fun _ _ _ _ _ _ us hl => match us, hl with | [_], _ => rfl
  have g_event_of := okv_event_of (P := P) (w := w) (base := base) (c := c) F_event_of B O_outcomes O_caller
  have D_event_of : DV P w K mg base "event_of" 1 1 (f_event_of c) := ⟨_, _, _, mg_of X G a_fn_event_of, F_event_of.kp, g_event_of, b_event_of⟩
  have b_events_from : Binds K fd_events_from ["stack", "standing"] [] := F_events_from.binds (ps := ["stack", "standing"]) fun _ _ _ _ _ _ us hl => match us, hl with | [_, _], _ => rfl
  have g_events_from := okv_events_from (P := P) (w := w) (base := base) (c := c) F_events_from B D_event_of D_ticked D_calls_from O_behind
  have D_events_from : DV P w K mg base "events_from" 38 2 (f_events_from c) := ⟨_, _, _, mg_of X G a_fn_events_from, F_events_from.kp, g_events_from, b_events_from⟩
  have b_reached_standings : Binds K fd_reached_standings ["stack"] [] := F_reached_standings.binds (ps := ["stack"]) fun _ _ _ _ _ _ us hl => match us, hl with | [_], _ => rfl
  have L_D_events_from : ∀ g : Hp, (letI : WW := WW.at_ g; DV P w K mg base "events_from" 38 2 (f_events_from c)) := fun g => by
    letI : WW := WW.at_ g
    have b_Call_make_try : Binds K fd_Call_make_try ["self"] [] := F_Call_make_try.binds (ps := ["self"]) fun _ _ _ _ _ _ us hl => match us, hl with | [_], _ => rfl
    have g_Call_make_try := okv_Call_make_try (P := P) (w := w) (base := base) (c := c) F_Call_make_try B O_outcomes O_tries O_limits O_many O_rows O_cut_by
    have b_may_store : Binds K fd_may_store ["row", "answer"] [] := F_may_store.binds (ps := ["row", "answer"]) fun _ _ _ _ _ _ us hl => match us, hl with | [_, _], _ => rfl
    have g_may_store := okv_may_store (P := P) (w := w) (base := base) (c := c) F_may_store B G_BAD O_what
    have D_may_store : DV P w K mg base "may_store" 1 2 (f_may_store c) := ⟨_, _, _, mg_of X G a_fn_may_store, F_may_store.kp, g_may_store, b_may_store⟩
    have T_make_try : ∀ C vf, tb_make_try c C = some vf → MVd P w K mg base 1 "make_try" 1 C vf := (tb1 ⟨cl_Call, _, _, _, _, by decide, mt_Call_make_try, g_Call_make_try, b_Call_make_try⟩ tb0)
    have b_Call_ask : Binds K fd_Call_ask ["self", "at", "caller"] [] := F_Call_ask.binds (ps := ["self", "at", "caller"]) fun _ _ _ _ _ _ us hl => match us, hl with | [_, _, _], _ => rfl
    have b_Call_ask_keeper : Binds K fd_Call_ask_keeper ["self", "at", "caller"] [] := F_Call_ask_keeper.binds (ps := ["self", "at", "caller"]) fun _ _ _ _ _ _ us hl => match us, hl with | [_, _, _], _ => rfl
    have b_Call_ask_repeatedly : Binds K fd_Call_ask_repeatedly ["self", "at", "caller"] [] := F_Call_ask_repeatedly.binds (ps := ["self", "at", "caller"]) fun _ _ _ _ _ _ us hl => match us, hl with | [_, _, _], _ => rfl
    have b_Call_ask_limited : Binds K fd_Call_ask_limited ["self", "at", "caller"] [] := F_Call_ask_limited.binds (ps := ["self", "at", "caller"]) fun _ _ _ _ _ _ us hl => match us, hl with | [_, _, _], _ => rfl
    have b_Call_ask_softly : Binds K fd_Call_ask_softly ["self", "at", "caller"] [] := F_Call_ask_softly.binds (ps := ["self", "at", "caller"]) fun _ _ _ _ _ _ us hl => match us, hl with | [_, _, _], _ => rfl
    have fam_ok0 : ∀ n, FnOk P w K mg base (L2.CX P w) (2 * n + 1) A_Call_ask fd_Call_ask ["self", "at", "caller"] (SpV K 3 (fam0 c n).Call_ask) ∧ FnOk P w K mg base (L2.CX P w) (2 * n + 1) A_Call_ask_keeper fd_Call_ask_keeper ["self", "at", "caller"] (SpV K 3 (fam0 c n).Call_ask_keeper) ∧ FnOk P w K mg base (L2.CX P w) (2 * n + 1) A_Call_ask_repeatedly fd_Call_ask_repeatedly ["self", "at", "caller"] (SpV K 3 (fam0 c n).Call_ask_repeatedly) ∧ FnOk P w K mg base (L2.CX P w) (2 * n + 1) A_Call_ask_limited fd_Call_ask_limited ["self", "at", "caller"] (SpV K 3 (fam0 c n).Call_ask_limited) ∧ FnOk P w K mg base (L2.CX P w) (2 * n + 1) A_Call_ask_softly fd_Call_ask_softly ["self", "at", "caller"] (SpV K 3 (fam0 c n).Call_ask_softly) := by
      intro n
      induction n with
      | zero => exact ⟨none_ok F_Call_ask sc_Call_ask, none_ok F_Call_ask_keeper sc_Call_ask_keeper, none_ok F_Call_ask_repeatedly sc_Call_ask_repeatedly, none_ok F_Call_ask_limited sc_Call_ask_limited, none_ok F_Call_ask_softly sc_Call_ask_softly⟩
      | succ n ih =>
        obtain ⟨h_Call_ask, h_Call_ask_keeper, h_Call_ask_repeatedly, h_Call_ask_limited, h_Call_ask_softly⟩ := ih
        have T_ask : ∀ C vf, tb_ask c (fam0 c n) C = some vf → MVd P w K mg base (2 * n + 1) "ask" 3 C vf := (tb1 ⟨cl_Call, _, _, _, _, Nat.le_refl _, mt_Call_ask, h_Call_ask, b_Call_ask⟩ tb0)
        have T_ask_keeper : ∀ C vf, tb_ask_keeper c (fam0 c n) C = some vf → MVd P w K mg base (2 * n + 1) "ask_keeper" 3 C vf := (tb1 ⟨cl_Call, _, _, _, _, Nat.le_refl _, mt_Call_ask_keeper, h_Call_ask_keeper, b_Call_ask_keeper⟩ tb0)
        have T_ask_repeatedly : ∀ C vf, tb_ask_repeatedly c (fam0 c n) C = some vf → MVd P w K mg base (2 * n + 1) "ask_repeatedly" 3 C vf := (tb1 ⟨cl_Call, _, _, _, _, Nat.le_refl _, mt_Call_ask_repeatedly, h_Call_ask_repeatedly, b_Call_ask_repeatedly⟩ tb0)
        have T_ask_limited : ∀ C vf, tb_ask_limited c (fam0 c n) C = some vf → MVd P w K mg base (2 * n + 1) "ask_limited" 3 C vf := (tb1 ⟨cl_Call, _, _, _, _, Nat.le_refl _, mt_Call_ask_limited, h_Call_ask_limited, b_Call_ask_limited⟩ tb0)
        have T_ask_softly : ∀ C vf, tb_ask_softly c (fam0 c n) C = some vf → MVd P w K mg base (2 * n + 1) "ask_softly" 3 C vf := (tb1 ⟨cl_Call, _, _, _, _, Nat.le_refl _, mt_Call_ask_softly, h_Call_ask_softly, b_Call_ask_softly⟩ tb0)
        exact ⟨(okv_Call_ask F_Call_ask B I_Lend M_Lend T_ask I_Count M_Count O_counts I_Leave M_Leave I_Soft M_Soft T_ask_softly I_Limit M_Limit T_ask_limited I_Tries M_Tries T_ask_repeatedly I_Keep M_Keep T_ask_keeper O_rows T_make_try).mono (by omega), (okv_Call_ask_keeper F_Call_ask_keeper B D_may_store O_stored O_held O_life T_ask O_rows O_given).mono (by omega), (okv_Call_ask_repeatedly F_Call_ask_repeatedly B O_on KD_FAULTS_OF O_many T_ask O_rows).mono (by omega), (okv_Call_ask_limited F_Call_ask_limited B O_cut_by O_limits T_ask O_tries).mono (by omega), (okv_Call_ask_softly F_Call_ask_softly B O_on O_rows KD_FAULTS_OF T_ask).mono (by omega)⟩
    obtain ⟨g_Call_ask, g_Call_ask_keeper, g_Call_ask_repeatedly, g_Call_ask_limited, g_Call_ask_softly⟩ := fam_ok0 16
    have T_ask : ∀ C vf, tb_ask c (fam0 c 16) C = some vf → MVd P w K mg base 33 "ask" 3 C vf := (tb1 ⟨cl_Call, _, _, _, _, by decide, mt_Call_ask, g_Call_ask, b_Call_ask⟩ tb0)
    have b_Call_init : Binds K fd_Call_init ["self", "rows", "standing", "caller", "outcomes"] [] := F_Call_init.binds (ps := ["self", "rows", "standing", "caller", "outcomes"]) fun _ _ _ _ _ _ us hl => match us, hl with | [_, _, _, _, _], _ => rfl
    have g_Call_init := okv_Call_init (P := P) (w := w) (base := base) (c := c) F_Call_init B O_behind O_held O_answer T_ask O_cut_by O_limits O_stored O_given O_counts I_Count M_Count O_tries O_outcomes O_caller O_rows
    have MI_Call : MI P w K mg base 34 5 "Call" c.Call (f_Call_init c) := ⟨_, _, _, mk_Call, g_Call_init, b_Call_init, mg_of X G a_Call⟩
    have b_calls_of : Binds K fd_calls_of ["stack", "standing", "caller"] [] := F_calls_of.binds (ps := ["stack", "standing", "caller"]) fun _ _ _ _ _ _ us hl => match us, hl with | [_, _, _], _ => rfl
    have g_calls_of := okv_calls_of (P := P) (w := w) (base := base) (c := c) F_calls_of B O_rows MI_Call O_tries
    have D_calls_of : DV P w K mg base "calls_of" 36 3 (f_calls_of c) := ⟨_, _, _, mg_of X G a_fn_calls_of, F_calls_of.kp, g_calls_of, b_calls_of⟩
    have b_calls_from : Binds K fd_calls_from ["stack", "standing"] [] := F_calls_from.binds (ps := ["stack", "standing"]) fun _ _ _ _ _ _ us hl => match us, hl with | [_, _], _ => rfl
    have g_calls_from := okv_calls_from (P := P) (w := w) (base := base) (c := c) F_calls_from B D_calls_of G_CALLERS
    have D_calls_from : DV P w K mg base "calls_from" 37 2 (f_calls_from c) := ⟨_, _, _, mg_of X G a_fn_calls_from, F_calls_from.kp, g_calls_from, b_calls_from⟩
    have b_aged : Binds K fd_aged ["thing"] [] := F_aged.binds (ps := ["thing"]) fun _ _ _ _ _ _ us hl => match us, hl with | [_], _ => rfl
    have g_aged := okv_aged (P := P) (w := w) (base := base) (c := c) F_aged B
    have D_aged : DV P w K mg base "aged" 1 1 (f_aged c) := ⟨_, _, _, mg_of X G a_fn_aged, F_aged.kp, g_aged, b_aged⟩
    have b_ticked : Binds K fd_ticked ["standing"] [] := F_ticked.binds (ps := ["standing"]) fun _ _ _ _ _ _ us hl => match us, hl with | [_], _ => rfl
    have g_ticked := okv_ticked (P := P) (w := w) (base := base) (c := c) F_ticked B D_aged
    have D_ticked : DV P w K mg base "ticked" 2 1 (f_ticked c) := ⟨_, _, _, mg_of X G a_fn_ticked, F_ticked.kp, g_ticked, b_ticked⟩
    have b_event_of : Binds K fd_event_of ["call"] [] := F_event_of.binds (ps := ["call"]) fun _ _ _ _ _ _ us hl => match us, hl with | [_], _ => rfl
    have g_event_of := okv_event_of (P := P) (w := w) (base := base) (c := c) F_event_of B O_outcomes O_caller
    have D_event_of : DV P w K mg base "event_of" 1 1 (f_event_of c) := ⟨_, _, _, mg_of X G a_fn_event_of, F_event_of.kp, g_event_of, b_event_of⟩
    have b_events_from : Binds K fd_events_from ["stack", "standing"] [] := F_events_from.binds (ps := ["stack", "standing"]) fun _ _ _ _ _ _ us hl => match us, hl with | [_, _], _ => rfl
    have g_events_from := okv_events_from (P := P) (w := w) (base := base) (c := c) F_events_from B D_event_of D_ticked D_calls_from O_behind
    have D_events_from : DV P w K mg base "events_from" 38 2 (f_events_from c) := ⟨_, _, _, mg_of X G a_fn_events_from, F_events_from.kp, g_events_from, b_events_from⟩
    exact D_events_from
  have g_reached_standings := okv_reached_standings (P := P) (w := w) (base := base) (c := c) F_reached_standings B D_begun DF_reached ci_reached_standings TBx_reached_standings TBm_reached_standings TB1_reached_standings L_D_events_from
  have D_reached_standings : DV P w K mg base "reached_standings" 41 1 (f_reached_standings c) := ⟨_, _, _, mg_of X G a_fn_reached_standings, F_reached_standings.kp, g_reached_standings, b_reached_standings⟩
  have b_breaks_calm : Binds K fd_breaks_calm ["call"] [] := F_breaks_calm.binds (ps := ["call"]) fun _ _ _ _ _ _ us hl => match us, hl with | [_], _ => rfl
  have g_breaks_calm := okv_breaks_calm (P := P) (w := w) (base := base) (c := c) F_breaks_calm B O_answer G_BAD O_caller
  have D_breaks_calm : DV P w K mg base "breaks_calm" 1 1 (f_breaks_calm c) := ⟨_, _, _, mg_of X G a_fn_breaks_calm, F_breaks_calm.kp, g_breaks_calm, b_breaks_calm⟩
  have b_breaks_fresh : Binds K fd_breaks_fresh ["call"] [] := F_breaks_fresh.binds (ps := ["call"]) fun _ _ _ _ _ _ us hl => match us, hl with | [_], _ => rfl
  have g_breaks_fresh := okv_breaks_fresh (P := P) (w := w) (base := base) (c := c) F_breaks_fresh B O_given
  have D_breaks_fresh : DV P w K mg base "breaks_fresh" 1 1 (f_breaks_fresh c) := ⟨_, _, _, mg_of X G a_fn_breaks_fresh, F_breaks_fresh.kp, g_breaks_fresh, b_breaks_fresh⟩
  have b_breaks_kept : Binds K fd_breaks_kept ["call"] [] := F_breaks_kept.binds (ps := ["call"]) fun _ _ _ _ _ _ us hl => match us, hl with | [_], _ => rfl
  have g_breaks_kept := okv_breaks_kept (P := P) (w := w) (base := base) (c := c) F_breaks_kept B O_given G_BAD
  have D_breaks_kept : DV P w K mg base "breaks_kept" 1 1 (f_breaks_kept c) := ⟨_, _, _, mg_of X G a_fn_breaks_kept, F_breaks_kept.kp, g_breaks_kept, b_breaks_kept⟩
  have b_breaks_leave : Binds K fd_breaks_leave ["call"] [] := F_breaks_leave.binds (ps := ["call"]) fun _ _ _ _ _ _ us hl => match us, hl with | [_], _ => rfl
  have g_breaks_leave := okv_breaks_leave (P := P) (w := w) (base := base) (c := c) F_breaks_leave B O_answer O_tries O_caller
  have D_breaks_leave : DV P w K mg base "breaks_leave" 1 1 (f_breaks_leave c) := ⟨_, _, _, mg_of X G a_fn_breaks_leave, F_breaks_leave.kp, g_breaks_leave, b_breaks_leave⟩
  have b_breaks_once : Binds K fd_breaks_once ["call"] [] := F_breaks_once.binds (ps := ["call"]) fun _ _ _ _ _ _ us hl => match us, hl with | [_], _ => rfl
  have g_breaks_once := okv_breaks_once (P := P) (w := w) (base := base) (c := c) F_breaks_once B O_counts
  have D_breaks_once : DV P w K mg base "breaks_once" 1 1 (f_breaks_once c) := ⟨_, _, _, mg_of X G a_fn_breaks_once, F_breaks_once.kp, g_breaks_once, b_breaks_once⟩
  have b_breaks_spare : Binds K fd_breaks_spare ["call"] [] := F_breaks_spare.binds (ps := ["call"]) fun _ _ _ _ _ _ us hl => match us, hl with | [_], _ => rfl
  have g_breaks_spare := okv_breaks_spare (P := P) (w := w) (base := base) (c := c) F_breaks_spare B O_stored
  have D_breaks_spare : DV P w K mg base "breaks_spare" 1 1 (f_breaks_spare c) := ⟨_, _, _, mg_of X G a_fn_breaks_spare, F_breaks_spare.kp, g_breaks_spare, b_breaks_spare⟩
  have b_breaks_tries : Binds K fd_breaks_tries ["call"] [] := F_breaks_tries.binds (ps := ["call"]) fun _ _ _ _ _ _ us hl => match us, hl with | [_], _ => rfl
  have g_breaks_tries := okv_breaks_tries (P := P) (w := w) (base := base) (c := c) F_breaks_tries B O_counts O_tries
  have D_breaks_tries : DV P w K mg base "breaks_tries" 1 1 (f_breaks_tries c) := ⟨_, _, _, mg_of X G a_fn_breaks_tries, F_breaks_tries.kp, g_breaks_tries, b_breaks_tries⟩
  have TF_BREAKS : ∀ f vf, tbF_BREAKS c f = some vf → DT P w K mg base 1 1 f vf := (tb1 ⟨_, _, _, by decide, g_breaks_calm, F_breaks_calm.kp, b_breaks_calm⟩ (tb1 ⟨_, _, _, by decide, g_breaks_fresh, F_breaks_fresh.kp, b_breaks_fresh⟩ (tb1 ⟨_, _, _, by decide, g_breaks_kept, F_breaks_kept.kp, b_breaks_kept⟩ (tb1 ⟨_, _, _, by decide, g_breaks_leave, F_breaks_leave.kp, b_breaks_leave⟩ (tb1 ⟨_, _, _, by decide, g_breaks_once, F_breaks_once.kp, b_breaks_once⟩ (tb1 ⟨_, _, _, by decide, g_breaks_spare, F_breaks_spare.kp, b_breaks_spare⟩ (tb1 ⟨_, _, _, by decide, g_breaks_tries, F_breaks_tries.kp, b_breaks_tries⟩ tb0)))))))
  have b_breaks : Binds K fd_breaks ["call", "wish"] [] := F_breaks.binds (ps := ["call", "wish"]) fun _ _ _ _ _ _ us hl => match us, hl with | [_, _], _ => rfl
  have g_breaks := okv_breaks (P := P) (w := w) (base := base) (c := c) F_breaks B TF_BREAKS KD_BREAKS KI_BOUNDS O_tries KD_BOUNDS
  have D_breaks : DV P w K mg base "breaks" 2 2 (f_breaks c) := ⟨_, _, _, mg_of X G a_fn_breaks, F_breaks.kp, g_breaks, b_breaks⟩
  have b_trail : Binds K fd_trail ["found", "last"] [] := F_trail.binds (ps := ["found", "last"]) fun _ _ _ _ _ _ us hl => match us, hl with | [_, _], _ => rfl
  have g_trail := okv_trail (P := P) (w := w) (base := base) (c := c) F_trail B HP HW
  have D_trail : DV P w K mg base "trail" 1 2 (f_trail c) := ⟨_, _, _, mg_of X G a_fn_trail, F_trail.kp, g_trail, b_trail⟩
  have b_breach : Binds K fd_breach ["stack", "wish"] [] := F_breach.binds (ps := ["stack", "wish"]) fun _ _ _ _ _ _ us hl => match us, hl with | [_, _], _ => rfl
  have g_breach := okv_breach (P := P) (w := w) (base := base) (c := c) F_breach B D_calls_from D_breaks D_event_of D_trail D_reached_standings D_check_wish HP HW
  have D_breach : DV P w K mg base "breach" 42 2 (f_breach c) := ⟨_, _, _, mg_of X G a_fn_breach, F_breach.kp, g_breach, b_breach⟩
  have b_standings : Binds K fd_standings ["stack"] [] := F_standings.binds (ps := ["stack"]) fun _ _ _ _ _ _ us hl => match us, hl with | [_], _ => rfl
  have g_standings := okv_standings (P := P) (w := w) (base := base) (c := c) F_standings B D_reached_standings HP HW
  have D_standings : DV P w K mg base "standings" 42 1 (f_standings c) := ⟨_, _, _, mg_of X G a_fn_standings, F_standings.kp, g_standings, b_standings⟩
  have b_possible_calls : Binds K fd_possible_calls ["stack"] [] := F_possible_calls.binds (ps := ["stack"]) fun _ _ _ _ _ _ us hl => match us, hl with | [_], _ => rfl
  have g_possible_calls := okv_possible_calls (P := P) (w := w) (base := base) (c := c) F_possible_calls B D_standings D_calls_from
  have D_possible_calls : DV P w K mg base "possible_calls" 43 1 (f_possible_calls c) := ⟨_, _, _, mg_of X G a_fn_possible_calls, F_possible_calls.kp, g_possible_calls, b_possible_calls⟩
  have b_most_tries : Binds K fd_most_tries ["stack"] [] := F_most_tries.binds (ps := ["stack"]) fun _ _ _ _ _ _ us hl => match us, hl with | [_], _ => rfl
  have g_most_tries := okv_most_tries (P := P) (w := w) (base := base) (c := c) F_most_tries B D_possible_calls O_tries
  have D_most_tries : DV P w K mg base "most_tries" 44 1 (f_most_tries c) := ⟨_, _, _, mg_of X G a_fn_most_tries, F_most_tries.kp, g_most_tries, b_most_tries⟩
  have b_kept_of : Binds K fd_kept_of ["stack", "wishes"] [] := F_kept_of.binds (ps := ["stack", "wishes"]) fun _ _ _ _ _ _ us hl => match us, hl with | [_, _], _ => rfl
  have g_kept_of := okv_kept_of (P := P) (w := w) (base := base) (c := c) F_kept_of B D_breaks D_possible_calls
  have D_kept_of : DV P w K mg base "kept_of" 44 2 (f_kept_of c) := ⟨_, _, _, mg_of X G a_fn_kept_of, F_kept_of.kp, g_kept_of, b_kept_of⟩
  have b_kept_wishes : Binds K fd_kept_wishes ["stack"] [] := F_kept_wishes.binds (ps := ["stack"]) fun _ _ _ _ _ _ us hl => match us, hl with | [_], _ => rfl
  have g_kept_wishes := okv_kept_wishes (P := P) (w := w) (base := base) (c := c) F_kept_wishes B D_kept_of G_WISHES
  have D_kept_wishes : DV P w K mg base "kept_wishes" 45 1 (f_kept_wishes c) := ⟨_, _, _, mg_of X G a_fn_kept_wishes, F_kept_wishes.kp, g_kept_wishes, b_kept_wishes⟩
  have C_Stack_read : CM P w K mg base 8 2 "read" c.Stack (f_Stack_read c) := ⟨_, _, _, _, _, cr_Stack_read, cmt_Stack_read, g_Stack_read, b_Stack_read⟩
  have b_law : Binds K fd_law ["_law_script"] [] := F_law.binds (ps := ["_law_script"]) fun _ _ _ _ _ _ us hl => match us, hl with | [_], _ => rfl
  have g_law := okv_law (P := P) (w := w) (base := base) (c := c) F_law B D_mixed D_cases D_breach D_standings D_most_tries D_kept_wishes D_deal C_Stack_read M_Stack
  have D_law : DV P w K mg base "law" 46 1 (f_law c) := ⟨_, _, _, mg_of X G a_fn_law, F_law.kp, g_law, b_law⟩
  exact g_law
end Vw
end
section
/-! Stp: one step of a function of values at a time. -/
namespace Vs
open PySem PySem.Spec PyProof.Rows L2
section
variable {s s1 : S} {m m1 m2 : List MO} {r : R} {f g : VS} {i : Nat} {a b : Sl} {t : T}
theorem st_seq (h : f s = some (.nx, s1)) (k : g s1 = r) : vSeq f g s = r := by unfold vSeq; rw [h]; exact k
theorem st_seq_rt (h : f s = some (.rt a, s1)) : vSeq f g s = some (.rt a, s1) := by unfold vSeq; rw [h]
theorem st_set {fe : VE} (h : fe s = rM a m) : vSet i fe s = some (.nx, ⟨s.ρ.set i (some a), m⟩) := by unfold vSet; rw [h]; rfl
theorem st_drop {fe : VE} (h : fe s = rM a m) : vDrop fe s = some (.nx, ⟨s.ρ, m⟩) := by unfold vDrop; rw [h]; rfl
theorem st_ret {fe : VE} (h : fe s = rM a m) : vRet fe s = some (.rt a, ⟨s.ρ, m⟩) := by unfold vRet; rw [h]; rfl
theorem st_if {c : VT} (h : c s = rM true m) (k : f ⟨s.ρ, m⟩ = r) : vIf c f g s = r := by unfold vIf; rw [h]; exact k
theorem st_ifn {c : VT} (h : c s = rM false m) (k : g ⟨s.ρ, m⟩ = r) : vIf c f g s = r := by unfold vIf; rw [h]; exact k
theorem st_put {fd fk fv : VE} {v d k : Sl} {m3 : List MO} (h1 : fv s = rM v m1) (h2 : fd ⟨s.ρ, m1⟩ = rM d m2) (h3 : fk ⟨s.ρ, m2⟩ = rM k m3) (h : gPut s.ρ v d k m3 = r) : vPut fd fk fv s = r := by unfold vPut; rw [h1]; show bS _ (fd _) _ = _; rw [h2]; show bS _ (fk _) _ = _; rw [h3]; exact h
theorem st_wh_end {c : VT} {n : Nat} (h : c s = rM false m) : vWh c f (n + 1) s = some (.nx, ⟨s.ρ, m⟩) := by rw [vWh, h]; rfl
theorem st_wh {c : VT} {n : Nat} (h : c s = rM true m) (k : f ⟨s.ρ, m⟩ = some (.nx, s1)) (z : vWh c f n s1 = r) : vWh c f (n + 1) s = r := by
  rw [vWh, h]
  simp only [bS, if_true]
  rw [k]
  exact z
theorem st_loop {gt : VG} {u : T} {us : List T} {ρ1 : List (Option Sl)} (h : gt u s.ρ = some ρ1) (k : f ⟨ρ1, s.m⟩ = some (.nx, s1)) (z : vLoop gt f us s1 = r) : vLoop gt f (u :: us) s = r := by
  rw [vLoop, h]
  show (match f ⟨ρ1, s.m⟩ with | some (.nx, s2) => _ | some (.ct, s2) => _ | some (.bk, s2) => _ | x => x) = _
  rw [k]
  exact z
theorem st_for {it : VI} {gt : VG} {us : List T} (h : it s = rM us m) (k : vLoop gt f us ⟨s.ρ, m⟩ = r) : vFor it gt f s = r := by unfold vFor; rw [h]; exact k
theorem se_var (h : s.ρ[i]? = some (some a)) : vVar i s = rM a s.m := by unfold vVar; rw [h]
theorem se_c : vC t s = rM (.val t) s.m := rfl
theorem se_bin {gg : Sl → Sl → List MO → M Sl} {fa fb : VE} {z : M Sl} (h1 : fa s = rM a m1) (h2 : fb ⟨s.ρ, m1⟩ = rM b m2) (h : gg a b m2 = z) : vBin gg fa fb s = z := by unfold vBin; rw [h1]; show bM (fb _) _ = _; rw [h2]; exact h
theorem se_val {fe : VN} {ts : List T} (h : fe s = rM ts m) : vVal fe s = rM (.val (.lst ts)) m := by unfold vVal; rw [h]; rfl
theorem se_own {fe : VN} {ts : List T} (h : fe s = rM ts m) : vOwn fe s = rM (.own m.length) (m ++ [.lst ts]) := by unfold vOwn; rw [h]; rfl
theorem se_b {gg : List Sl → List MO → M Sl} {fa : VA} {ss : List Sl} {z : M Sl} (h : fa s = rM ss m) (k : gg ss m = z) : vB gg fa s = z := by unfold vB; rw [h]; exact k
theorem se_bN {gg : List Sl → List MO → M (List T)} {fa : VA} {ss : List Sl} {z : M (List T)} (h : fa s = rM ss m) (k : gg ss m = z) : vBN gg fa s = z := by unfold vBN; rw [h]; exact k
theorem se_met0 {gg : Sl → List Sl → List MO → M Sl} {fo : VE} {z : M Sl} (h : fo s = rM a m) (hl : isLst a m = true) (k : gg a [] m = z) : vMet0 gg fo s = z := by
  unfold vMet0; rw [h]; show (if isLst a m = true then _ else _) = _; rw [if_pos hl]; exact k
theorem se_met {gg : Sl → List Sl → List MO → M Sl} {fo : VE} {fa : VA} {ss : List Sl} {z : M Sl} (h : fo s = rM a m) (hl : isLst a m = true) (h2 : fa ⟨s.ρ, m⟩ = rM ss m1) (k : gg a ss m1 = z) : vMet gg fo fa s = z := by
  unfold vMet; rw [h]; show (if isLst a m = true then _ else _) = _; rw [if_pos hl, h2]; exact k
theorem se_call {vf : VF} {fa : VA} {ss : List Sl} {z : M Sl} (h : fa s = rM ss m) (k : callM vf ss m = z) : vCall vf fa s = z := by unfold vCall; rw [h]; exact k
theorem sa_nil : vNil s = rM [] s.m := rfl
theorem sa_cons {fe : VE} {fa : VA} {ss : List Sl} (h1 : fe s = rM a m1) (h2 : fa ⟨s.ρ, m1⟩ = rM ss m2) : vCons fe fa s = rM (a :: ss) m2 := by unfold vCons; rw [h1]; show bM (fa _) _ = _; rw [h2]; rfl
theorem sc_test {fe : VE} {c : Bool} (h : fe s = rM (.val (.bl c)) m) : vTest fe s = rM c m := by unfold vTest; rw [h]; rfl
theorem sc_and {c d : VT} {z : M Bool} (h : c s = rM true m) (k : d ⟨s.ρ, m⟩ = z) : vAnd c d s = z := by unfold vAnd; rw [h]; exact k
theorem sc_andn {c d : VT} (h : c s = rM false m) : vAnd c d s = rM false m := by unfold vAnd; rw [h]; rfl
theorem si_items {fe : VE} {z : M (List T)} (h : fe s = rM a m) (k : gSeq a m = z) : vItems fe s = z := by unfold vItems; rw [h]; exact k
/-- a def's answer -/
theorem sd_rt {nl : Nat} {args : List Sl} (h : f ⟨args.map some ++ List.replicate (nl - args.length) none, m⟩ = some (.rt a, s1)) : vDef nl f args m = some (.ok a, s1.m) := by unfold vDef; rw [h]
theorem sd_nx {nl : Nat} {args : List Sl} (h : f ⟨args.map some ++ List.replicate (nl - args.length) none, m⟩ = some (.nx, s1)) : vDef nl f args m = some (.ok (.val .non), s1.m) := by unfold vDef; rw [h]
theorem g_intC {c : Int → Int → Bool} {ff : Int → Int → T} {i j : Int} (h : c i j = true) : gIntC c ff (.val (.int i)) (.val (.int j)) m = rM (.val (ff i j)) m := by unfold gIntC; simp only; rw [if_pos h]
end
/-! ### calls with what is never changed -/
theorem putFrom_nil {k : Nat} {sub : List MO} : ∀ (m : List MO) (i : Nat), putFrom [] k sub m i = m
  | [], _ => rfl
  | o :: r, i => by unfold putFrom; rw [putFrom_nil r (i + 1)]; rfl
theorem grow_nil {m : List MO} : grow m 100 [] [] = [] := rfl
theorem call_fresh {vf : VF} {as : List Sl} {sub m : List MO} {o : Out Sl} (ho : owns as = []) (hr : renSs [] as = some as) (h : vf as [] = some (o, sub)) : callM vf as m = some (backO [] m.length o, m ++ sub.map (backM [] m.length)) := by
  unfold callM
  rw [ho, grow_nil]
  simp only [List.nodup_nil, if_true, hr, renMs, h]
  show (if 0 ≤ sub.length then _ else _) = _
  rw [if_pos (Nat.zero_le _)]
  unfold putAll
  rw [putFrom_nil]
  rfl
/-- a call whose arguments own nothing: what comes, and new objects -/
theorem call_val {vf : VF} {as : List Sl} {t : T} {sub m : List MO} (ho : owns as = []) (hr : renSs [] as = some as) (h : vf as [] = some (.ok (.val t), sub)) : ∃ X, callM vf as m = rM (.val t) (m ++ X) := by
  refine ⟨sub.map (backM [] m.length), ?_⟩
  unfold callM
  rw [ho, grow_nil]
  simp only [List.nodup_nil, if_true, hr, renMs, h]
  show (if 0 ≤ sub.length then _ else _) = _
  rw [if_pos (Nat.zero_le _)]
  unfold putAll
  rw [putFrom_nil]
  rfl
end Vs
end
section
/-! DrawP: what the laws' draws bring, by values. -/
namespace Vs
open PySem PySem.Spec PyProof.Rows L2
/-! ### lists of data -/
def Good (t : T) : Prop := ∃ d, toD t = some d ∧ d.canLay0 = true ∧ d.depth ≤ 60
theorem good_int (i : Int) : Good (.int i) := ⟨.int i, rfl, rfl, Nat.zero_le _⟩
theorem toDs_good : ∀ {us : List T}, (∀ t ∈ us, Good t) → ∃ ds, toDs us = some ds ∧ PyData.canLayAll0 ds = true ∧ PyData.depthAll ds ≤ 60 ∧ ds.length = us.length
  | [], _ => ⟨[], rfl, rfl, by decide, rfl⟩
  | t :: r, h => by
    obtain ⟨d, h1, h2, h3⟩ := h t (List.mem_cons_self ..)
    obtain ⟨ds, e1, e2, e3, e4⟩ := toDs_good (us := r) fun u hu => h u (List.mem_cons_of_mem _ hu)
    refine ⟨d :: ds, by unfold toDs; rw [h1, e1], by unfold PyData.canLayAll0; rw [h2, e2]; rfl, by unfold PyData.depthAll; omega, by rw [List.length_cons, List.length_cons, e4]⟩
/-- own list != [] -/
theorem ne_nil_own {i : Nat} {us : List T} {m : List MO} (hm : m[i]? = some (.lst us)) (h : ∀ t ∈ us, Good t) : gDat (fun d e => !PyData.eqv d e) (.own i) (.val (.lst [])) m = rM (.val (.bl (!us.isEmpty))) m := by
  obtain ⟨ds, e1, e2, e3, e4⟩ := toDs_good h
  have ed : datOf (.own i) m = some (.list ds) := by unfold datOf; simp only [hm, e1]; rfl
  have e0 : datOf (.val (.lst [])) m = some (.list []) := rfl
  have s1 : SeqAt.shaped (.list ds) = true := by
    unfold SeqAt.shaped
    rw [show (PyData.list ds).canLay0 = PyData.canLayAll0 ds from by unfold PyData.canLay0; rfl, e2]
    have : (PyData.list ds).depth ≤ 64 := by
      rw [show (PyData.list ds).depth = PyData.depthAll ds + 1 from by unfold PyData.depth; rfl]; omega
    simp [this]
  have s2 : SeqAt.shaped (.list []) = true := by decide
  unfold gDat
  rw [ed, e0]
  simp only
  rw [if_pos ⟨s1, s2⟩]
  cases us with
  | nil => cases ds with
    | nil => rfl
    | cons a r => simp at e4
  | cons u r => cases ds with
    | nil => simp at e4
    | cons a r' => rfl
theorem nil_or_last {α : Type} : ∀ l : List α, l = [] ∨ ∃ r a, l = r ++ [a]
  | [] => .inl rfl
  | a :: l => by
    rcases nil_or_last l with rfl | ⟨r, b, rfl⟩
    · exact .inr ⟨[], a, rfl⟩
    · exact .inr ⟨a :: r, b, rfl⟩
/-! ### a draw -/
abbrev dDivA : Sl → Sl → List MO → M Sl := gIntC cDiv fun i j => .int (i / j)
abbrev dModA : Sl → Sl → List MO → M Sl := gIntC cPos fun i j => .int (i % j)
abbrev dMulA : Sl → Sl → List MO → M Sl := gIntC cMul fun i j => .int (i * j)
abbrev cG : VT := vAnd (vTest (vBin (gDat fun d e => !PyData.eqv d e) (vVar 2) (vVal (vLst vNil)))) (vTest (vBin (gDat PyData.eqv) (vBin gIx (vVar 2) (vC (.int (-1)))) (vC (.int 0))))
def bDrawG (key : Str) (mu ad dv : Int) : VS := (vSeq (vSet 2 (vBin gRd (vVar 0) (vC (.str "great"))))
    (vSeq (vWh cG (vDrop (vMet0 gPop (vVar 2))) 1000)
    (vSeq (vIf (vTest (vBin (gDat fun d e => !PyData.eqv d e) (vVar 2) (vVal (vLst vNil)))) (vSeq (vSet 3 (vMet0 gPop (vVar 2)))
    (vSeq (vDrop (vMet gAppend (vVar 2) (vCons (vBin dDivA (vVar 3) (vVar 1)) vNil)))
    (vRet (vBin dModA (vB gInt1 (vCons (vVar 3) vNil)) (vVar 1))))) vNext)
    (vSeq (vPut (vVar 0) (vC (.str key)) (vBin dModA (vB gInt1 (vCons (vBin gAdd (vBin dMulA (vBin gRd (vVar 0) (vC (.str key))) (vC (.int mu))) (vC (.int ad))) vNil)) (vC (.int 2147483647))))
    (vRet (vBin dModA (vB gInt1 (vCons (vBin dDivA (vBin gRd (vVar 0) (vC (.str key))) (vC (.int dv))) vNil)) (vVar 1)))))))
/-- the deal in a store of its own -/
def dealM (key : Str) (x : Int) (gs : List Int) : List MO := [.rcd [("great", .own 1), (key, .val (.int x))], .lst (gs.map T.int)]
theorem ints_good (gs : List Int) : ∀ t ∈ gs.map T.int, Good t := fun t h => by
  obtain ⟨i, _, rfl⟩ := List.mem_map.mp h
  exact good_int i
def slD (n : Int) (o3 : Option Sl) : List (Option Sl) := [some (.own 0), some (.val (.int n)), some (.own 1), o3]
section
variable {key : Str} {x n : Int} {o3 : Option Sl}
theorem ne_nil_g (gs : List Int) : vTest (vBin (gDat fun d e => !PyData.eqv d e) (vVar 2) (vVal (vLst vNil))) ⟨slD n o3, dealM key x gs⟩ = rM (!gs.isEmpty) (dealM key x gs) :=
  sc_test (se_bin (se_var rfl) (se_val rfl) (by rw [ne_nil_own (us := gs.map T.int) rfl (ints_good gs)]; cases gs <;> rfl))
theorem last_g (l : List Int) (a : Int) : gIx (.own 1) (.val (.int (-1))) (dealM key x (l ++ [a])) = rM (.val (.int a)) (dealM key x (l ++ [a])) := by
  have sq : seqOf (.own 1) (dealM key x (l ++ [a])) = some (l.map T.int ++ [T.int a]) := by
    have el : (l ++ [a]).map T.int = l.map T.int ++ [T.int a] := by simp
    rw [← el]; rfl
  have at_ : atI (l.map T.int ++ [T.int a]) (-1) = some (T.int a) := by
    have e : ixN (l.map T.int ++ [T.int a]).length (-1) = some (l.map T.int).length := by
      unfold ixN
      rw [if_neg (by decide), if_pos (by simp; omega)]
      congr 1
      simp
      omega
    unfold atI
    rw [e]
    show (l.map T.int ++ [T.int a])[(l.map T.int).length]? = _
    rw [List.getElem?_append_right (Nat.le_refl _), Nat.sub_self]
    rfl
  unfold gIx
  simp only [sq, at_]
theorem pop_g (l : List Int) (a : Int) : gPop (.own 1) [] (dealM key x (l ++ [a])) = rM (.val (.int a)) (dealM key x l) := by
  have q : (dealM key x (l ++ [a]))[1]? = some (.lst (l.map T.int ++ [T.int a])) := by
    have el : (l ++ [a]).map T.int = l.map T.int ++ [T.int a] := by simp
    rw [← el]; rfl
  unfold gPop
  simp only [q]
  have e : (l.map T.int ++ [T.int a])[(l.map T.int ++ [T.int a]).length - 1]? = some (.int a) := by
    have : (l.map T.int ++ [T.int a]).length - 1 = (l.map T.int).length := by simp
    rw [this, List.getElem?_append_right (Nat.le_refl _), Nat.sub_self]
    rfl
  rw [e]
  simp [dealM]
theorem wh_step : ∀ (f : Nat) (gs : List Int), gs.length < f →
    ∃ gs', gs'.length ≤ gs.length ∧ vWh cG (vDrop (vMet0 gPop (vVar 2))) f ⟨slD n o3, dealM key x gs⟩ = some (.nx, ⟨slD n o3, dealM key x gs'⟩)
  | 0, gs, h => absurd h (Nat.not_lt_zero _)
  | f + 1, gs, h => by
    rcases nil_or_last gs with rfl | ⟨l, a, rfl⟩
    · exact ⟨[], Nat.le_refl _, st_wh_end (sc_andn (ne_nil_g []))⟩
    · have e1 : (!(l ++ [a]).isEmpty) = true := by simp
      have c1 := ne_nil_g (key := key) (x := x) (n := n) (o3 := o3) (l ++ [a])
      rw [e1] at c1
      have c2 : vTest (vBin (gDat PyData.eqv) (vBin gIx (vVar 2) (vC (.int (-1)))) (vC (.int 0))) ⟨slD n o3, dealM key x (l ++ [a])⟩ = rM (a == 0) (dealM key x (l ++ [a])) :=
        sc_test (se_bin (se_bin (se_var rfl) se_c (last_g l a)) se_c rfl)
      by_cases ha : a = 0
      · obtain ⟨gs', h1, h2⟩ := wh_step f l (by simp at h; omega)
        refine ⟨gs', by simp; omega, ?_⟩
        have e2 : (a == 0) = true := by simp [ha]
        rw [e2] at c2
        exact st_wh (sc_and c1 c2) (st_drop (se_met0 (se_var rfl) rfl (pop_g l a))) h2
      · refine ⟨l ++ [a], Nat.le_refl _, ?_⟩
        have e2 : (a == 0) = false := by simp [ha]
        rw [e2] at c2
        exact st_wh_end (sc_and c1 c2)
end
theorem draw_ok {key : Str} {mu ad dv x n : Int} {gs : List Int} (hk : key ≠ "great") (hg : gs.length ≤ 900) (hx : 0 ≤ x ∧ x < 2147483647) (hn : 0 < n ∧ n < 1073741824) (hd : 0 < dv ∧ dv < 1073741824) :
    ∃ r x' gs', vDef 4 (bDrawG key mu ad dv) [.own 0, .val (.int n)] (dealM key x gs) = some (.ok (.val (.int r)), dealM key x' gs') ∧ (0 ≤ r ∧ r < n) ∧ (0 ≤ x' ∧ x' < 2147483647) ∧ gs'.length ≤ gs.length := by
  obtain ⟨g1, l1, w1⟩ := wh_step (key := key) (x := x) (n := n) (o3 := none) 1000 gs (by omega)
  have kb : (key == ("great" : Str)) = false := beq_eq_false_iff_ne.mpr hk
  have s1 : vSet 2 (vBin gRd (vVar 0) (vC (.str "great"))) ⟨[some (.own 0), some (.val (.int n)), none, none], dealM key x gs⟩ = some (.nx, ⟨slD n none, dealM key x gs⟩) :=
    st_set (se_bin (se_var rfl) se_c rfl)
  have cd : ∀ i : Int, cDiv i n = true := fun i => by unfold cDiv; simp; omega
  have cp : ∀ i : Int, cPos i n = true := fun i => by unfold cPos; simp; omega
  rcases nil_or_last g1 with rfl | ⟨l, a, rfl⟩
  · let x' := (x * mu + ad) % 2147483647
    have hx' : 0 ≤ x' ∧ x' < 2147483647 := ⟨Int.emod_nonneg _ (by decide), Int.emod_lt_of_pos _ (by decide)⟩
    refine ⟨(x' / dv) % n, x', [], ?_, ⟨Int.emod_nonneg _ (by omega), Int.emod_lt_of_pos _ hn.1⟩, hx', Nat.zero_le _⟩
    have cm : cMul x mu = true := by unfold cMul; simp; omega
    have rd : ∀ y : Int, gRd (.own 0) (.val (.str key)) (dealM key y []) = rM (.val (.int y)) (dealM key y []) := fun y => by
      unfold gRd dealM
      simp [List.lookup, kb]
    have put : gPut (slD n none) (.val (.int x')) (.own 0) (.val (.str key)) (dealM key x []) = some (.nx, ⟨slD n none, dealM key x' []⟩) := by
      unfold gPut dealM
      simp [putL, hk, Ne.symm hk, beq_eq_false_iff_ne.mpr (Ne.symm hk)]
      decide
    refine sd_rt (f := bDrawG key mu ad dv) (s1 := ⟨slD n none, dealM key x' []⟩) ?_
    exact st_seq s1 (st_seq w1 (st_seq (st_ifn (ne_nil_g []) rfl)
      (st_seq (st_put (se_bin (se_b (sa_cons (se_bin (se_bin (se_bin (se_var rfl) se_c (rd x)) se_c (g_intC cm)) se_c rfl) sa_nil) rfl) se_c rfl) (se_var rfl) se_c put)
        (st_ret (se_bin (se_b (sa_cons (se_bin (se_bin (se_var rfl) se_c (rd x')) se_c (g_intC (by unfold cDiv; simp; omega))) sa_nil) rfl) (se_var rfl) (g_intC (cp _)))))))
  · refine ⟨a % n, x, l ++ [a / n], ?_, ⟨Int.emod_nonneg _ (by omega), Int.emod_lt_of_pos _ hn.1⟩, hx, by simp at l1 ⊢; omega⟩
    have e1 : (!(l ++ [a]).isEmpty) = true := by simp
    have c1 := ne_nil_g (key := key) (x := x) (n := n) (o3 := none) (l ++ [a])
    rw [e1] at c1
    have ap : gAppend (.own 1) [.val (.int (a / n))] (dealM key x l) = rM (.val .non) (dealM key x (l ++ [a / n])) := by
      unfold gAppend
      show (if (l.map T.int).length < SZ then _ else _) = _
      rw [if_pos (by have : SZ = 1000000 := rfl; simp at l1 ⊢; omega)]
      simp [dealM]
    refine sd_rt (f := bDrawG key mu ad dv) (s1 := ⟨slD n (some (.val (.int a))), dealM key x (l ++ [a / n])⟩) ?_
    refine st_seq s1 (st_seq w1 (st_seq_rt (st_if c1 ?_)))
    exact st_seq (s1 := ⟨slD n (some (.val (.int a))), dealM key x l⟩) (st_set (se_met0 (se_var rfl) rfl (pop_g l a)))
      (st_seq (st_drop (se_met (se_var rfl) rfl (sa_cons (se_bin (se_var rfl) (se_var rfl) (g_intC (cd a))) sa_nil) ap))
        (st_ret (se_bin (se_b (sa_cons (se_var rfl) sa_nil) rfl) (se_var rfl) (g_intC (cp a)))))
end Vs
end
section
/-! MixP: calls that are lent a deal; mixed. -/
namespace Vs
open PySem PySem.Spec PyProof.Rows L2
section
variable {key : Str} {x : Int} {gs : List Int} {m : List MO} {d g : Nat} {us : List T}
theorem grow_deal (hd : m[d]? = some (.rcd [("great", .own g), (key, .val (.int x))])) (hg : m[g]? = some (.lst us)) (ne : g ≠ d) : grow m 100 [d] [] = [d, g] := by
  show grow m (99 + 1) [d] [] = _
  unfold grow
  rw [if_neg (by simp), hd]
  show grow m (98 + 1) [g] [d] = _
  unfold grow
  rw [if_neg (by simpa using ne), hg]
  rfl
/-- arguments that own nothing -/
def Vals0 (ss : List Sl) : Prop := ∀ s ∈ ss, ∃ t, s = .val t
theorem owns0 : ∀ {ss : List Sl}, Vals0 ss → owns ss = []
  | [], _ => rfl
  | s :: r, h => by
    obtain ⟨t, rfl⟩ := h s (List.mem_cons_self ..)
    show owns r = []
    exact owns0 fun u hu => h u (List.mem_cons_of_mem _ hu)
theorem ren0 {ids : List Nat} : ∀ {ss : List Sl}, Vals0 ss → renSs ids ss = some ss
  | [], _ => rfl
  | s :: r, h => by
    obtain ⟨t, rfl⟩ := h s (List.mem_cons_self ..)
    unfold renSs
    rw [ren0 fun u hu => h u (List.mem_cons_of_mem _ hu)]
    rfl
theorem v0n : Vals0 [] := fun _ h => nomatch h
theorem v0c {t : T} {ss : List Sl} (h : Vals0 ss) : Vals0 (.val t :: ss) := fun s hs => by
  rcases List.mem_cons.mp hs with rfl | hs
  · exact ⟨t, rfl⟩
  · exact h s hs
theorem call_deal {vf : VF} {vals : List Sl} {t : T} {sub' : List MO} (hd : m[d]? = some (.rcd [("great", .own g), (key, .val (.int x))])) (hg : m[g]? = some (.lst (gs.map T.int))) (ne : g ≠ d) (hv : Vals0 vals)
    (h : vf (.own 0 :: vals) (dealM key x gs) = some (.ok (.val t), sub')) (h2 : 2 ≤ sub'.length) : callM vf (.own d :: vals) m = rM (.val t) (putAll [d, g] m sub') := by
  unfold callM
  have eo : owns (.own d :: vals) = [d] := by show d :: owns vals = _; rw [owns0 hv]
  rw [eo, grow_deal hd hg ne]
  have nd : [d, g].Nodup := by simp [Ne.symm ne]
  have er : renSs [d, g] (.own d :: vals) = some (.own 0 :: vals) := by
    unfold renSs
    rw [ren0 hv]
    have : renS [d, g] (.own d) = some (.own 0) := by
      show Option.map Sl.own (if d = d then some 0 else _) = _
      rw [if_pos rfl]
      rfl
    rw [this]
  have i1 : ixOf [d, g] g = some 1 := by
    unfold ixOf
    rw [if_neg (Ne.symm ne)]
    unfold ixOf
    rw [if_pos rfl]
    rfl
  have em : renMs [d, g] m [d, g] = some (dealM key x gs) := by
    have e1 : renM [d, g] (.rcd [("great", .own g), (key, .val (.int x))]) = some (.rcd [("great", .own 1), (key, .val (.int x))]) := by
      simp only [renM, renF, renS, i1]
      rfl
    unfold renMs
    rw [hd]
    simp only [e1]
    unfold renMs
    rw [hg]
    rfl
  simp only [if_pos nd, er, em, h]
  show (if 2 ≤ sub'.length then _ else _) = _
  rw [if_pos h2]
  rfl
theorem putFrom_rest {k : Nat} {sub : List MO} : ∀ (r : List MO) (i : Nat), 2 ≤ i → putFrom [0, 1] k sub r i = r
  | [], _, _ => rfl
  | o :: r, i, h => by
    unfold putFrom
    rw [putFrom_rest r (i + 1) (by omega)]
    have : ixOf [0, 1] i = none := by
      unfold ixOf
      rw [if_neg (by omega)]
      unfold ixOf
      rw [if_neg (by omega)]
      rfl
    rw [this]
theorem put_deal {x' : Int} {gs' : List Int} (rest : List MO) : putAll [0, 1] (dealM key x gs ++ rest) (dealM key x' gs') = dealM key x' gs' ++ rest := by
  unfold putAll
  show putFrom [0, 1] _ (dealM key x' gs') (_ :: _ :: rest) 0 ++ _ = _
  unfold putFrom
  unfold putFrom
  rw [putFrom_rest rest _ (by omega)]
  show (_ :: _ :: rest) ++ [] = _
  rw [List.append_nil]
  rfl
/-- .. in a store that begins with the deal -/
theorem call_deal0 {vf : VF} {vals : List Sl} {t : T} {x' : Int} {gs' : List Int} {rest : List MO} (hv : Vals0 vals) (h : vf (.own 0 :: vals) (dealM key x gs) = some (.ok (.val t), dealM key x' gs')) :
    callM vf (.own 0 :: vals) (dealM key x gs ++ rest) = rM (.val t) (dealM key x' gs' ++ rest) := by
  have := call_deal (m := dealM key x gs ++ rest) (d := 0) (g := 1) (key := key) (x := x) (gs := gs) rfl rfl (by decide) hv h (by simp [dealM])
  rw [put_deal] at this
  exact this
end
/-! ### mixed -/
/-- what a draw promises -/
def DrawOk (key : Str) (fd : VF) : Prop := ∀ (x n : Int) (gs : List Int), gs.length ≤ 900 → (0 ≤ x ∧ x < 2147483647) → (0 < n ∧ n < 1073741824) →
  ∃ r x' gs', fd [.own 0, .val (.int n)] (dealM key x gs) = some (.ok (.val (.int r)), dealM key x' gs') ∧ (0 ≤ r ∧ r < n) ∧ (0 ≤ x' ∧ x' < 2147483647) ∧ gs'.length ≤ gs.length
def bMixG (fd : VF) : VS := (vSeq (vFrz 3 (vFrz 2 (vPar 2 3 (vCons (vOwn (vBN gListOf (vCons (vVar 1) vNil))) (vCons (vOwn (vLst vNil)) vNil)))))
    (vSeq (vWh (vTest (vBin (gDat fun d e => !PyData.eqv d e) (vVar 2) (vVal (vLst vNil)))) (vDrop (vMet gAppend (vVar 3) (vCons (vMet gPopAt (vVar 2) (vCons (vCall fd (vCons (vVar 0) (vCons (vB gLen (vCons (vVar 2) vNil)) vNil))) vNil)) vNil))) 1000)
    (vFrz 3 (vRet (vVar 3)))))
section
variable {key : Str} {fd : VF} {us : List T}
abbrev slM (us : List T) : List (Option Sl) := [some (.own 0), some (.val (.lst us)), some (.own 2), some (.own 3)]
abbrev mM (key : Str) (x : Int) (gs : List Int) (left found : List T) : List MO := dealM key x gs ++ [.lst left, .lst found]
theorem mix_loop (hf : DrawOk key fd) (good : ∀ t ∈ us, Good t) : ∀ (f : Nat) (x : Int) (gs : List Int) (left found : List T), left.length < f → left.length + found.length ≤ 900 → gs.length ≤ 900 → (0 ≤ x ∧ x < 2147483647) → (∀ t ∈ left, t ∈ us) → (∀ t ∈ found, t ∈ us) →
    ∃ x' gs' found', vWh (vTest (vBin (gDat fun d e => !PyData.eqv d e) (vVar 2) (vVal (vLst vNil)))) (vDrop (vMet gAppend (vVar 3) (vCons (vMet gPopAt (vVar 2) (vCons (vCall fd (vCons (vVar 0) (vCons (vB gLen (vCons (vVar 2) vNil)) vNil))) vNil)) vNil))) f ⟨slM us, mM key x gs left found⟩ = some (.nx, ⟨slM us, mM key x' gs' [] found'⟩)
      ∧ (∀ t ∈ found', t ∈ us) ∧ (0 ≤ x' ∧ x' < 2147483647) ∧ gs'.length ≤ gs.length ∧ found'.length = left.length + found.length
  | 0, x, gs, left, found, h, _, _, _, _, _ => absurd h (Nat.not_lt_zero _)
  | f + 1, x, gs, left, found, h, hz, hg, hx, hl, hfo => by
    have c1 : vTest (vBin (gDat fun d e => !PyData.eqv d e) (vVar 2) (vVal (vLst vNil))) ⟨slM us, mM key x gs left found⟩ = rM (!left.isEmpty) (mM key x gs left found) :=
      sc_test (se_bin (se_var rfl) (se_val rfl) (ne_nil_own (us := left) rfl fun t ht => good t (hl t ht)))
    by_cases e : left = []
    · subst e
      exact ⟨x, gs, found, st_wh_end c1, hfo, hx, Nat.le_refl _, by simp⟩
    · have e1 : (!left.isEmpty) = true := by cases left <;> simp_all
      rw [e1] at c1
      have hn : 0 < left.length := List.length_pos_iff.mpr e
      obtain ⟨r, x1, gs1, h1, hr, hx1, hg1⟩ := hf x (left.length : Int) gs hg hx ⟨by omega, by omega⟩
      have cal := call_deal0 (rest := [.lst left, .lst found]) (v0c v0n) h1
      have hj : r.toNat < left.length := by omega
      have ix : ixN left.length r = some r.toNat := by unfold ixN; rw [if_pos hr.1, if_pos (by omega)]
      have pop : gPopAt (.own 2) [.val (.int r)] (mM key x1 gs1 left found) = rM (.val left[r.toNat]) (mM key x1 gs1 (left.eraseIdx r.toNat) found) := by
        show (if left.length ≤ SZ then _ else _) = _
        rw [if_pos (by have : SZ = 1000000 := rfl; omega), ix]
        simp only
        rw [List.getElem?_eq_getElem hj]
        rfl
      have ap : gAppend (.own 3) [.val left[r.toNat]] (mM key x1 gs1 (left.eraseIdx r.toNat) found) = rM (.val .non) (mM key x1 gs1 (left.eraseIdx r.toNat) (found ++ [left[r.toNat]])) := by
        show (if found.length < SZ then _ else _) = _
        rw [if_pos (by have : SZ = 1000000 := rfl; omega)]
        rfl
      have le : (left.eraseIdx r.toNat).length = left.length - 1 := List.length_eraseIdx_of_lt hj
      obtain ⟨x', gs', fo, q1, q2, q3, q4, q5⟩ := mix_loop hf good f x1 gs1 (left.eraseIdx r.toNat) (found ++ [left[r.toNat]]) (by omega) (by rw [le, List.length_append, List.length_singleton]; omega) (by omega) hx1
        (fun t ht => hl t (List.mem_of_mem_eraseIdx ht)) (fun t ht => by
          rcases List.mem_append.mp ht with ht | ht
          · exact hfo t ht
          · rw [List.mem_singleton.mp ht]; exact hl _ (List.getElem_mem hj))
      refine ⟨x', gs', fo, st_wh c1 (st_drop (se_met (se_var rfl) rfl (sa_cons (se_met (se_var rfl) rfl (sa_cons (se_call (sa_cons (se_var rfl) (sa_cons (se_b (sa_cons (se_var rfl) sa_nil) rfl) sa_nil)) cal) sa_nil) pop) sa_nil) ap)) q1, q2, q3, by omega, ?_⟩
      rw [q5, le, List.length_append, List.length_singleton]
      omega
theorem mix_ok (hf : DrawOk key fd) (good : ∀ t ∈ us, Good t) (hu : us.length ≤ 900) {x : Int} {gs : List Int} (hg : gs.length ≤ 900) (hx : 0 ≤ x ∧ x < 2147483647) :
    ∃ fo x' gs', (∃ sub', vDef 4 (bMixG fd) [.own 0, .val (.lst us)] (dealM key x gs) = some (.ok (.val (.lst fo)), sub') ∧ sub' = dealM key x' gs' ++ [.lst [], .dead]) ∧ (∀ t ∈ fo, t ∈ us) ∧ fo.length = us.length ∧ (0 ≤ x' ∧ x' < 2147483647) ∧ gs'.length ≤ gs.length := by
  obtain ⟨x', gs', fo, q1, q2, q3, q4, q5⟩ := mix_loop hf good 1000 x gs us [] (by omega) (by simpa using hu) hg hx (fun t h => h) (fun t h => nomatch h)
  refine ⟨fo, x', gs', ⟨_, sd_rt (f := bMixG fd) (s1 := ⟨[some (.own 0), some (.val (.lst us)), some (.own 2), some (.val (.lst fo))], dealM key x' gs' ++ [.lst [], .dead]⟩) ?_, rfl⟩, q2, by simpa using q5, q3, q4⟩
  have li : vBN gListOf (vCons (vVar 1) vNil) ⟨[some (.own 0), some (.val (.lst us)), none, none], dealM key x gs⟩ = rM us (dealM key x gs) := se_bN (sa_cons (se_var rfl) sa_nil) (by
    show (if us.length ≤ SZ then _ else _) = _
    rw [if_pos (by have : SZ = 1000000 := rfl; omega)])
  have s1 : vFrz 3 (vFrz 2 (vPar 2 3 (vCons (vOwn (vBN gListOf (vCons (vVar 1) vNil))) (vCons (vOwn (vLst vNil)) vNil)))) ⟨[some (.own 0), some (.val (.lst us)), none, none], dealM key x gs⟩ = some (.nx, ⟨slM us, mM key x gs us []⟩) := by
    show vPar 2 3 _ ⟨[some (.own 0), some (.val (.lst us)), none, none], dealM key x gs⟩ = _
    unfold vPar
    rw [sa_cons (se_own li) (sa_cons (se_own rfl) sa_nil)]
    rfl
  exact st_seq s1 (st_seq q1 rfl)
end
end Vs
end
section
/-! DealP: the deal that a script makes. -/
namespace Vs
open PySem PySem.Spec PyProof.Rows L2
theorem coll_ok {g : VG} {tt : VT} {te : VE} {ρ : List (Option Sl)} {m : List MO} {F : T → Option T} : ∀ (ts acc : List T), (∀ t ∈ ts, ∃ ρ1, g t ρ = some ρ1 ∧ ((∃ u, F t = some u ∧ tt ⟨ρ1, m⟩ = rM true m ∧ te ⟨ρ1, m⟩ = rM (.val u) m) ∨ (F t = none ∧ tt ⟨ρ1, m⟩ = rM false m))) →
    acc.length + ts.length ≤ SZ → vColl g tt te ρ ts m acc = rM (acc ++ ts.filterMap F) m
  | [], acc, _, _ => by rw [vColl, List.filterMap_nil, List.append_nil]
  | t :: r, acc, h, hz => by
    obtain ⟨ρ1, e, h1⟩ := h t (List.mem_cons_self ..)
    rw [List.length_cons] at hz
    rcases h1 with ⟨u, f, c, v⟩ | ⟨f, c⟩
    · rw [vColl, e]
      simp only [c, v]
      rw [if_pos (by omega), coll_ok r (acc ++ [u]) (fun t ht => h t (List.mem_cons_of_mem _ ht)) (by rw [List.length_append, List.length_singleton]; omega), List.filterMap_cons_some f, List.append_assoc]
      rfl
    · rw [vColl, e]
      simp only [c]
      rw [coll_ok r acc (fun t ht => h t (List.mem_cons_of_mem _ ht)) (by omega), List.filterMap_cons_none f]
def absI (i : Int) : Int := if i < 0 then -i else i
def fAbs : T → Option T := fun t => match t with
  | .int i => some (.int (absI i))
  | _ => none
def fGe (b : Int) : T → Option T := fun t => match t with
  | .int i => if b ≤ i then some (.int i) else none
  | _ => none
theorem fAbs_map : ∀ ns : List Int, (ns.map T.int).filterMap fAbs = (ns.map absI).map T.int
  | [] => rfl
  | n :: r => by rw [List.map_cons, List.filterMap_cons_some (show fAbs (.int n) = some (.int (absI n)) from rfl), fAbs_map r]; rfl
theorem fGe_map (b : Int) : ∀ ns : List Int, (ns.map T.int).filterMap (fGe b) = (ns.filter fun i => decide (b ≤ i)).map T.int
  | [] => rfl
  | n :: r => by
    rw [List.map_cons]
    by_cases h : b ≤ n
    · rw [List.filterMap_cons_some (show fGe b (.int n) = some (.int n) from if_pos h), fGe_map b r, List.filter_cons_of_pos (by simpa using h)]
      rfl
    · rw [List.filterMap_cons_none (show fGe b (.int n) = none from if_neg h), fGe_map b r, List.filter_cons_of_neg (by simpa using h)]
theorem cut_ints (ns : List Int) (lo hi : Option Int) : ∃ ks : List Int, cutT (ns.map T.int) lo hi = ks.map T.int ∧ ks.length ≤ ns.length := by
  refine ⟨(ns.drop (HT.sIx (ns.map T.int).length 0 lo)).take (HT.sIx (ns.map T.int).length (ns.map T.int).length hi - HT.sIx (ns.map T.int).length 0 lo), ?_, ?_⟩
  · unfold cutT
    rw [List.map_take, List.map_drop]
  · rw [List.length_take, List.length_drop]
    omega
def bStir (mu of md : Int) : VS := vSet 3 (vBin dModA (vB gInt1 (vCons (vBin gAdd (vBin dMulA (vBin gAdd (vBin gAdd (vVar 3) (vVar 4)) (vC (.int of))) (vC (.int mu))) (vBin dModA (vB gInt1 (vCons (vVar 5) vNil)) (vC (.int md)))) vNil)) (vC (.int 2147483647)))
def bDealG (key : Str) (hi c0 cm mu of md : Int) : VS := (vSeq (vSet 2 (vVal (vComp [5] (vItems (vVal (vSliceL (vVar 0) (vPart (vVar 1)) (vPart (vC (.int hi)))))) (vgName 5) vYes (vB gAbs (vCons (vB gInt1 (vCons (vVar 5) vNil)) vNil)))))
    (vSeq (vSet 3 (vBin gAdd (vC (.int c0)) (vBin dMulA (vC (.int cm)) (vVar 1))))
    (vSeq (vFor (vEnum (vCons (vVar 2) vNil)) (vgTup [(vgName 4), (vgName 5)]) (bStir mu of md))
    (vRet (vDisp [("great", (vOwn (vRev (vVal (vComp [5] (vItems (vVar 2)) (vgName 5) (vTest (vBin (gInt fun i j => .bl (decide (j ≤ i))) (vVar 5) (vBin (gIntC cPow fun i j => .int (i ^ j.toNat)) (vC (.int 10)) (vC (.int 18))))) (vVar 5)))))), (key, (vVar 3))])))))
section
variable {mu of md : Int} {m : List MO}
theorem stir_loop (hm : -(2 ^ 64) < mu ∧ mu < 2 ^ 64) (hd : 0 < md) {a0 a1 a2 : Option Sl} : ∀ (cs : List Int) (k : Nat) (x : Int) (o4 o5 : Option Sl), (0 ≤ x ∧ x < 2147483647) →
    ∃ x' o4' o5', vLoop (vgTup [vgName 4, vgName 5]) (bStir mu of md) (numT k (cs.map T.int)) ⟨[a0, a1, a2, some (.val (.int x)), o4, o5], m⟩ = some (.nx, ⟨[a0, a1, a2, some (.val (.int x')), o4', o5'], m⟩) ∧ (0 ≤ x' ∧ x' < 2147483647)
  | [], k, x, o4, o5, hx => ⟨x, o4, o5, rfl, hx⟩
  | c :: r, k, x, o4, o5, hx => by
    let y := (((x + (k : Int)) + of) * mu + c % md) % 2147483647
    have hy : 0 ≤ y ∧ y < 2147483647 := ⟨Int.emod_nonneg _ (by decide), Int.emod_lt_of_pos _ (by decide)⟩
    obtain ⟨x', o4', o5', e, hx'⟩ := stir_loop hm hd (a0 := a0) (a1 := a1) (a2 := a2) r (k + 1) y (some (.val (.int (k : Int)))) (some (.val (.int c))) hy
    refine ⟨x', o4', o5', ?_, hx'⟩
    have cm : ∀ i : Int, cMul i mu = true := fun i => by unfold cMul; simp; omega
    have cp : ∀ i : Int, cPos i md = true := fun i => by unfold cPos; simp; omega
    exact st_loop (gt := vgTup [vgName 4, vgName 5]) (u := .tup [.int (k : Int), .int c]) (ρ1 := [a0, a1, a2, some (.val (.int x)), some (.val (.int (k : Int))), some (.val (.int c))]) rfl
      (st_set (a := .val (.int y)) (se_bin (se_b (sa_cons (se_bin (se_bin (se_bin (se_bin (se_var rfl) (se_var rfl) rfl) se_c rfl) se_c (g_intC (cm _))) (se_bin (se_b (sa_cons (se_var rfl) sa_nil) rfl) se_c (g_intC (cp _))) rfl) sa_nil) rfl) se_c rfl)) e
theorem deal_ok {key : Str} {hi c0 cm b : Int} {ns : List Int} (hk : key ≠ "great") (hl : ns.length ≤ 900) (hm : -(2 ^ 64) < mu ∧ mu < 2 ^ 64) (hd : 0 < md) (hc : -(2 ^ 64) < cm ∧ cm < 2 ^ 64) (h0 : 0 ≤ c0 + cm * b ∧ c0 + cm * b < 2147483647) :
    ∃ (x : Int) (gs : List Int), vDef 6 (bDealG key hi c0 cm mu of md) [.val (.seq (ns.map T.int)), .val (.int b)] [] = some (.ok (.own 1), [.lst (gs.map T.int), .rcd [("great", .own 0), (key, .val (.int x))]]) ∧ (0 ≤ x ∧ x < 2147483647) ∧ gs.length ≤ ns.length := by
  obtain ⟨ks, ec, lk⟩ := cut_ints ns (some b) (some hi)
  let cs := ks.map absI
  have lc : cs.length = ks.length := by simp [cs]
  have sz : SZ = 1000000 := rfl
  let s0 : List (Option Sl) := [some (.val (.seq (ns.map T.int))), some (.val (.int b)), none, none, none, none]
  have sl : vSliceL (vVar 0) (vPart (vVar 1)) (vPart (vC (.int hi))) ⟨s0, []⟩ = rM (ks.map T.int) [] := by
    show (if (ns.map T.int).length ≤ SZ then rM (cutT (ns.map T.int) (some b) (some hi)) [] else none) = _
    rw [if_pos (by simp; omega), ec]
  have k1 : vComp [5] (vItems (vVal (vSliceL (vVar 0) (vPart (vVar 1)) (vPart (vC (.int hi)))))) (vgName 5) vYes (vB gAbs (vCons (vB gInt1 (vCons (vVar 5) vNil)) vNil)) ⟨s0, []⟩ = rM (cs.map T.int) [] := by
    have e1 : vItems (vVal (vSliceL (vVar 0) (vPart (vVar 1)) (vPart (vC (.int hi))))) ⟨s0, []⟩ = rM (ks.map T.int) [] := si_items (se_val sl) rfl
    have e2 : vColl (vgName 5) vYes (vB gAbs (vCons (vB gInt1 (vCons (vVar 5) vNil)) vNil)) (wipeS s0 [5]) (ks.map T.int) [] [] = rM ([] ++ (ks.map T.int).filterMap fAbs) [] := coll_ok (F := fAbs) (ks.map T.int) [] (fun t ht => by
      obtain ⟨i, _, rfl⟩ := List.mem_map.mp ht
      exact ⟨_, rfl, .inl ⟨_, rfl, rfl, se_b (sa_cons (se_b (sa_cons (se_var rfl) sa_nil) rfl) sa_nil) rfl⟩⟩) (by simp; omega)
    unfold vComp
    rw [e1]
    refine e2.trans ?_
    rw [List.nil_append, fAbs_map]
  have s1 : vSet 2 (vVal (vComp [5] (vItems (vVal (vSliceL (vVar 0) (vPart (vVar 1)) (vPart (vC (.int hi)))))) (vgName 5) vYes (vB gAbs (vCons (vB gInt1 (vCons (vVar 5) vNil)) vNil)))) ⟨s0, []⟩ = some (.nx, ⟨s0.set 2 (some (.val (.lst (cs.map T.int)))), []⟩) := st_set (se_val k1)
  have s2 : vSet 3 (vBin gAdd (vC (.int c0)) (vBin dMulA (vC (.int cm)) (vVar 1))) ⟨s0.set 2 (some (.val (.lst (cs.map T.int)))), []⟩ = some (.nx, ⟨[some (.val (.seq (ns.map T.int))), some (.val (.int b)), some (.val (.lst (cs.map T.int))), some (.val (.int (c0 + cm * b))), none, none], []⟩) :=
    st_set (se_bin se_c (se_bin se_c (se_var rfl) (g_intC (by unfold cMul; simp; omega))) rfl)
  obtain ⟨x, o4, o5, el, hx⟩ := stir_loop (m := []) (of := of) hm hd (a0 := some (.val (.seq (ns.map T.int)))) (a1 := some (.val (.int b))) (a2 := some (.val (.lst (cs.map T.int)))) cs 0 (c0 + cm * b) none none h0
  let gs := (cs.filter fun i => decide ((10 : Int) ^ 18 ≤ i)).reverse
  have lg : gs.length ≤ ks.length := by
    show (List.reverse _).length ≤ _
    rw [List.length_reverse]
    exact Nat.le_trans (List.length_filter_le _ _) (by omega)
  refine ⟨x, gs, ?_, hx, by omega⟩
  refine sd_rt (f := bDealG key hi c0 cm mu of md) (s1 := ⟨[some (.val (.seq (ns.map T.int))), some (.val (.int b)), some (.val (.lst (cs.map T.int))), some (.val (.int x)), o4, o5], [.lst (gs.map T.int), .rcd [("great", .own 0), (key, .val (.int x))]]⟩) ?_
  refine st_seq s1 (st_seq s2 (st_seq (st_for rfl el) (st_ret ?_)))
  let sE : List (Option Sl) := [some (.val (.seq (ns.map T.int))), some (.val (.int b)), some (.val (.lst (cs.map T.int))), some (.val (.int x)), o4, o5]
  have k2 : vComp [5] (vItems (vVar 2)) (vgName 5) (vTest (vBin (gInt fun i j => .bl (decide (j ≤ i))) (vVar 5) (vBin (gIntC cPow fun i j => .int (i ^ j.toNat)) (vC (.int 10)) (vC (.int 18))))) (vVar 5) ⟨sE, []⟩ = rM ((cs.filter fun i => decide ((10 : Int) ^ 18 ≤ i)).map T.int) [] := by
    have e1 : vItems (vVar 2) ⟨sE, []⟩ = rM (cs.map T.int) [] := si_items (se_var rfl) rfl
    have e2 : vColl (vgName 5) (vTest (vBin (gInt fun i j => .bl (decide (j ≤ i))) (vVar 5) (vBin (gIntC cPow fun i j => .int (i ^ j.toNat)) (vC (.int 10)) (vC (.int 18))))) (vVar 5) (wipeS sE [5]) (cs.map T.int) [] [] = rM ([] ++ (cs.map T.int).filterMap (fGe ((10 : Int) ^ 18))) [] := coll_ok (F := fGe ((10 : Int) ^ 18)) (cs.map T.int) [] (fun t ht => by
      obtain ⟨i, _, rfl⟩ := List.mem_map.mp ht
      have pw : vBin (gIntC cPow fun i j => .int (i ^ j.toNat)) (vC (.int 10)) (vC (.int 18)) = fun s => rM (.val (.int ((10 : Int) ^ 18))) s.m := by
        funext s
        exact se_bin se_c se_c (g_intC (by decide))
      have ct : ∀ ρ1 : List (Option Sl), ρ1[5]? = some (some (.val (.int i))) → vTest (vBin (gInt fun i j => .bl (decide (j ≤ i))) (vVar 5) (vBin (gIntC cPow fun i j => .int (i ^ j.toNat)) (vC (.int 10)) (vC (.int 18)))) ⟨ρ1, []⟩ = rM (decide ((10 : Int) ^ 18 ≤ i)) [] := fun ρ1 h => by
        rw [pw]
        exact sc_test (se_bin (se_var h) rfl rfl)
      by_cases hi : (10 : Int) ^ 18 ≤ i
      · exact ⟨_, rfl, .inl ⟨_, if_pos hi, by rw [ct _ rfl, decide_eq_true hi], se_var rfl⟩⟩
      · exact ⟨_, rfl, .inr ⟨if_neg hi, by rw [ct _ rfl, decide_eq_false hi]⟩⟩) (by simp; omega)
    unfold vComp
    rw [e1]
    refine e2.trans ?_
    rw [List.nil_append, fGe_map]
  have cp : vVal (vComp [5] (vItems (vVar 2)) (vgName 5) (vTest (vBin (gInt fun i j => .bl (decide (j ≤ i))) (vVar 5) (vBin (gIntC cPow fun i j => .int (i ^ j.toNat)) (vC (.int 10)) (vC (.int 18))))) (vVar 5)) ⟨sE, []⟩ = rM (.val (.lst ((cs.filter fun i => decide ((10 : Int) ^ 18 ≤ i)).map T.int))) [] := se_val k2
  have rv : vOwn (vRev (vVal (vComp [5] (vItems (vVar 2)) (vgName 5) (vTest (vBin (gInt fun i j => .bl (decide (j ≤ i))) (vVar 5) (vBin (gIntC cPow fun i j => .int (i ^ j.toNat)) (vC (.int 10)) (vC (.int 18))))) (vVar 5)))) ⟨[some (.val (.seq (ns.map T.int))), some (.val (.int b)), some (.val (.lst (cs.map T.int))), some (.val (.int x)), o4, o5], []⟩ = rM (.own 0) [.lst (gs.map T.int)] := by
    refine se_own (m := []) (ts := gs.map T.int) ?_
    unfold vRev
    rw [cp]
    show (if ((cs.filter fun i => decide ((10 : Int) ^ 18 ≤ i)).map T.int).length ≤ SZ then _ else _) = _
    rw [if_pos (by
      rw [List.length_map]
      have := List.length_filter_le (fun i => decide ((10 : Int) ^ 18 ≤ i)) cs
      omega), ← List.map_reverse]
  unfold vDisp vRcd
  rw [rv]
  have kd : distinct [("great" : Str), key] = true := by
    unfold distinct
    simp [distinct, Ne.symm hk, beq_eq_false_iff_ne.mpr (Ne.symm hk)]
  show gDisp [("great", .own 0), (key, .val (.int x))] [.lst (gs.map T.int)] = _
  unfold gDisp
  rw [if_pos ⟨kd, by show 2 ≤ 15; decide⟩]
  rfl
end
end Vs
end
section
namespace Vw
open PySem PySem.Spec PyProof.Rows L2 Own Vs
def c0 : CS := {WrapError := 31, InvalidRow := 51, InvalidStack := 70, InvalidText := 89, InvalidWish := 110, NoRow := 129, Row := 192, Keep := 221, Tries := 248, Limit := 274, Leave := 293, Soft := 320, Count := 339, Lend := 358, Call := 441, Stack := 703, fn_breaks_calm := 488, fn_breaks_fresh := 493, fn_breaks_kept := 498, fn_breaks_leave := 505, fn_breaks_once := 510, fn_breaks_spare := 517, fn_breaks_tries := 522}
def cs0 : List (Addr × Addr) := [(607, 603)]
def ww (P : Program) (w : World) : WW := ⟨P, w, fun _ => none, [(603, ((("reached_standings" : Str) ++ (".<locals>." : Str)) ++ ("<lambda>" : Str)))]⟩
theorem f_draw_eq : f_draw c0 = vDef 4 (bDrawG "stirred" 48271 19 16) := rfl
theorem f_mixed_eq : f_mixed c0 = vDef 4 (bMixG (f_draw c0)) := rfl
theorem f_deal_eq : f_deal c0 = vDef 6 (bDealG "stirred" 64 51749 13 48271 2 2147483587) := rfl
def casesT : List T := match f_cases c0 [] [] with
  | some (.ok (.val (.lst ts)), _) => ts
  | _ => []
def casesM : List MO := match f_cases c0 [] [] with
  | some (_, m) => m
  | _ => []
theorem cases_eq : f_cases c0 [] [] = some (.ok (.val (.lst casesT)), casesM) := by kernel_rfl
theorem cases_len : casesT.length = 18 := by kernel_rfl
def goodB (t : T) : Bool := match toD t with
  | some d => d.canLay0 && decide (d.depth ≤ 60)
  | none => false
theorem good_of {t : T} (h : goodB t = true) : Good t := by
  unfold goodB at h
  split at h
  · rename_i d e
    have h2 := Bool.and_eq_true_iff.mp h
    exact ⟨d, e, h2.1, of_decide_eq_true h2.2⟩
  · cases h
theorem cases_goodB : casesT.all goodB = true := by kernel_rfl
theorem cases_good : ∀ t ∈ casesT, Good t := fun t h => good_of (List.all_eq_true.mp cases_goodB t h)
def okN : R → Bool
  | some (.nx, s) => s.ρ.length == 10
  | _ => false
def tgL : VG := (vgTup [(vgName 2), (vgName 3), (vgName 4), (vgName 5), (vgName 6), (vgName 7)])
def bodyL (c : CS) : VS := (vSeq (vSet 8 (vCMeth c.Stack (f_Stack_read c) (vCons (vM1 gJoin (vC (.str "\n")) (vVar 2)) vNil)))
    (vSeq (vIf (vOr (vTest (vBin dNe (vVal (vBN gListOf (vCons (vCall (f_kept_wishes c) (vCons (vVar 8) vNil)) vNil))) (vVar 3))) (vOr (vTest (vBin dNe (vCall (f_most_tries c) (vCons (vVar 8) vNil)) (vVar 4))) (vTest (vBin dNe (vB gLen (vCons (vCall (f_standings c) (vCons (vVar 8) vNil)) vNil)) (vVar 5))))) (vRet (vC (.bl false))) vNext)
    (vSeq (vSet 9 (vCall (f_breach c) (vCons (vVar 8) (vCons (vVar 6) vNil))))
    (vIf (vOr (vTest (vBin dNe (vIsN false (vVar 9)) (vBin dEq (vVar 7) (vC (.int 0))))) (vAnd (vTest (vIsN true (vVar 9))) (vTest (vBin dNe (vB gLen (vCons (vVar 9) vNil)) (vVar 7))))) (vRet (vC (.bl false))) vNext))))
theorem b_law_eq : b_law c0 = (vSeq (vSet 1 (vCall (f_deal c0) (vCons (vVar 0) (vCons (vC (.int 0)) vNil))))
    (vSeq (vFor (vItems (vCall (f_mixed c0) (vCons (vVar 1) (vCons (vCall (f_cases c0) vNil) vNil)))) tgL (bodyL c0)) (vRet (vC (.bl true))))) := rfl
def runC (t : T) (ρ : List (Option Sl)) (m : List MO) : R := match tgL t ρ with
  | some ρ1 => bodyL c0 ⟨ρ1, m⟩
  | none => none
theorem case_0 (a0 a1 a2 a3 a4 a5 a6 a7 a8 a9 : Option Sl) (m : List MO) : okN (runC (casesT.getD 0 .non) [a0, a1, a2, a3, a4, a5, a6, a7, a8, a9] m) = true := by kernel_rfl
theorem case_1 (a0 a1 a2 a3 a4 a5 a6 a7 a8 a9 : Option Sl) (m : List MO) : okN (runC (casesT.getD 1 .non) [a0, a1, a2, a3, a4, a5, a6, a7, a8, a9] m) = true := by kernel_rfl
theorem case_2 (a0 a1 a2 a3 a4 a5 a6 a7 a8 a9 : Option Sl) (m : List MO) : okN (runC (casesT.getD 2 .non) [a0, a1, a2, a3, a4, a5, a6, a7, a8, a9] m) = true := by kernel_rfl
theorem case_3 (a0 a1 a2 a3 a4 a5 a6 a7 a8 a9 : Option Sl) (m : List MO) : okN (runC (casesT.getD 3 .non) [a0, a1, a2, a3, a4, a5, a6, a7, a8, a9] m) = true := by kernel_rfl
theorem case_4 (a0 a1 a2 a3 a4 a5 a6 a7 a8 a9 : Option Sl) (m : List MO) : okN (runC (casesT.getD 4 .non) [a0, a1, a2, a3, a4, a5, a6, a7, a8, a9] m) = true := by kernel_rfl
theorem case_5 (a0 a1 a2 a3 a4 a5 a6 a7 a8 a9 : Option Sl) (m : List MO) : okN (runC (casesT.getD 5 .non) [a0, a1, a2, a3, a4, a5, a6, a7, a8, a9] m) = true := by kernel_rfl
theorem case_6 (a0 a1 a2 a3 a4 a5 a6 a7 a8 a9 : Option Sl) (m : List MO) : okN (runC (casesT.getD 6 .non) [a0, a1, a2, a3, a4, a5, a6, a7, a8, a9] m) = true := by kernel_rfl
theorem case_7 (a0 a1 a2 a3 a4 a5 a6 a7 a8 a9 : Option Sl) (m : List MO) : okN (runC (casesT.getD 7 .non) [a0, a1, a2, a3, a4, a5, a6, a7, a8, a9] m) = true := by kernel_rfl
theorem case_8 (a0 a1 a2 a3 a4 a5 a6 a7 a8 a9 : Option Sl) (m : List MO) : okN (runC (casesT.getD 8 .non) [a0, a1, a2, a3, a4, a5, a6, a7, a8, a9] m) = true := by kernel_rfl
theorem case_9 (a0 a1 a2 a3 a4 a5 a6 a7 a8 a9 : Option Sl) (m : List MO) : okN (runC (casesT.getD 9 .non) [a0, a1, a2, a3, a4, a5, a6, a7, a8, a9] m) = true := by kernel_rfl
theorem case_10 (a0 a1 a2 a3 a4 a5 a6 a7 a8 a9 : Option Sl) (m : List MO) : okN (runC (casesT.getD 10 .non) [a0, a1, a2, a3, a4, a5, a6, a7, a8, a9] m) = true := by kernel_rfl
theorem case_11 (a0 a1 a2 a3 a4 a5 a6 a7 a8 a9 : Option Sl) (m : List MO) : okN (runC (casesT.getD 11 .non) [a0, a1, a2, a3, a4, a5, a6, a7, a8, a9] m) = true := by kernel_rfl
theorem case_12 (a0 a1 a2 a3 a4 a5 a6 a7 a8 a9 : Option Sl) (m : List MO) : okN (runC (casesT.getD 12 .non) [a0, a1, a2, a3, a4, a5, a6, a7, a8, a9] m) = true := by kernel_rfl
theorem case_13 (a0 a1 a2 a3 a4 a5 a6 a7 a8 a9 : Option Sl) (m : List MO) : okN (runC (casesT.getD 13 .non) [a0, a1, a2, a3, a4, a5, a6, a7, a8, a9] m) = true := by kernel_rfl
theorem case_14 (a0 a1 a2 a3 a4 a5 a6 a7 a8 a9 : Option Sl) (m : List MO) : okN (runC (casesT.getD 14 .non) [a0, a1, a2, a3, a4, a5, a6, a7, a8, a9] m) = true := by kernel_rfl
theorem case_15 (a0 a1 a2 a3 a4 a5 a6 a7 a8 a9 : Option Sl) (m : List MO) : okN (runC (casesT.getD 15 .non) [a0, a1, a2, a3, a4, a5, a6, a7, a8, a9] m) = true := by kernel_rfl
theorem case_16 (a0 a1 a2 a3 a4 a5 a6 a7 a8 a9 : Option Sl) (m : List MO) : okN (runC (casesT.getD 16 .non) [a0, a1, a2, a3, a4, a5, a6, a7, a8, a9] m) = true := by kernel_rfl
theorem case_17 (a0 a1 a2 a3 a4 a5 a6 a7 a8 a9 : Option Sl) (m : List MO) : okN (runC (casesT.getD 17 .non) [a0, a1, a2, a3, a4, a5, a6, a7, a8, a9] m) = true := by kernel_rfl
end Vw
end
section
namespace Vw
open PySem PySem.Spec PyProof.Rows L2 Own Vs
theorem lenN (ρ : List (Option Sl)) (h : ρ.length = 10) : ∃ a0 a1 a2 a3 a4 a5 a6 a7 a8 a9, ρ = [a0, a1, a2, a3, a4, a5, a6, a7, a8, a9] := by
  match ρ, h with
  | [a0, a1, a2, a3, a4, a5, a6, a7, a8, a9], _ => exact ⟨a0, a1, a2, a3, a4, a5, a6, a7, a8, a9, rfl⟩
theorem step_i (i : Nat) (hi : i < 18) (ρ : List (Option Sl)) (m : List MO) (h : ρ.length = 10) : okN (runC (casesT.getD i .non) ρ m) = true := by
  obtain ⟨a0, a1, a2, a3, a4, a5, a6, a7, a8, a9, rfl⟩ := lenN ρ h
  match i, hi with
  | 0, _ => exact case_0 a0 a1 a2 a3 a4 a5 a6 a7 a8 a9 m
  | 1, _ => exact case_1 a0 a1 a2 a3 a4 a5 a6 a7 a8 a9 m
  | 2, _ => exact case_2 a0 a1 a2 a3 a4 a5 a6 a7 a8 a9 m
  | 3, _ => exact case_3 a0 a1 a2 a3 a4 a5 a6 a7 a8 a9 m
  | 4, _ => exact case_4 a0 a1 a2 a3 a4 a5 a6 a7 a8 a9 m
  | 5, _ => exact case_5 a0 a1 a2 a3 a4 a5 a6 a7 a8 a9 m
  | 6, _ => exact case_6 a0 a1 a2 a3 a4 a5 a6 a7 a8 a9 m
  | 7, _ => exact case_7 a0 a1 a2 a3 a4 a5 a6 a7 a8 a9 m
  | 8, _ => exact case_8 a0 a1 a2 a3 a4 a5 a6 a7 a8 a9 m
  | 9, _ => exact case_9 a0 a1 a2 a3 a4 a5 a6 a7 a8 a9 m
  | 10, _ => exact case_10 a0 a1 a2 a3 a4 a5 a6 a7 a8 a9 m
  | 11, _ => exact case_11 a0 a1 a2 a3 a4 a5 a6 a7 a8 a9 m
  | 12, _ => exact case_12 a0 a1 a2 a3 a4 a5 a6 a7 a8 a9 m
  | 13, _ => exact case_13 a0 a1 a2 a3 a4 a5 a6 a7 a8 a9 m
  | 14, _ => exact case_14 a0 a1 a2 a3 a4 a5 a6 a7 a8 a9 m
  | 15, _ => exact case_15 a0 a1 a2 a3 a4 a5 a6 a7 a8 a9 m
  | 16, _ => exact case_16 a0 a1 a2 a3 a4 a5 a6 a7 a8 a9 m
  | 17, _ => exact case_17 a0 a1 a2 a3 a4 a5 a6 a7 a8 a9 m
  | k + 18, h => exact absurd h (by omega)
theorem step_t {t : T} (ht : t ∈ casesT) (ρ : List (Option Sl)) (m : List MO) (h : ρ.length = 10) : okN (runC t ρ m) = true := by
  obtain ⟨i, hi, e⟩ := List.getElem_of_mem ht
  have := step_i i (by rw [← cases_len]; exact hi) ρ m h
  rw [List.getD_eq_getElem?_getD, List.getElem?_eq_getElem hi, e] at this
  exact this
theorem loopL : ∀ (ts : List T), (∀ t ∈ ts, t ∈ casesT) → ∀ s : S, s.ρ.length = 10 → ∃ s', vLoop tgL (bodyL c0) ts s = some (.nx, s')
  | [], _, s, _ => ⟨s, rfl⟩
  | t :: r, h, s, hs => by
    have q := step_t (h t (List.mem_cons_self ..)) s.ρ s.m hs
    unfold runC at q
    cases eg : tgL t s.ρ with
    | none => rw [eg] at q; cases q
    | some ρ1 =>
      rw [eg] at q
      simp only at q
      match eb : bodyL c0 ⟨ρ1, s.m⟩, q with
      | some (.nx, s1), q =>
        obtain ⟨s', e⟩ := loopL r (fun t ht => h t (List.mem_cons_of_mem _ ht)) s1 (by simpa [okN] using q)
        exact ⟨s', st_loop eg eb e⟩
theorem draw_k : DrawOk "stirred" (f_draw c0) := fun x n gs hg hx hn => by
  rw [f_draw_eq]
  exact draw_ok (by decide) hg hx hn (by decide)
theorem pure_law (ns : List Int) (hl : ns.length ≤ 63) : ∃ m', f_law c0 [.val (.seq (ns.map T.int))] [] = some (.ok (.val (.bl true)), m') := by
  obtain ⟨x, gs, e, hx, hg⟩ := deal_ok (key := "stirred") (hi := 64) (c0 := 51749) (cm := 13) (mu := 48271) (of := 2) (md := 2147483587) (b := 0) (ns := ns) (by decide) (by omega) (by decide) (by decide) (by decide) (by decide)
  rw [← f_deal_eq] at e
  have c1 : callM (f_deal c0) [.val (.seq (ns.map T.int)), .val (.int 0)] [] = rM (.own 1) [.lst (gs.map T.int), .rcd [("great", .own 0), ("stirred", .val (.int x))]] := call_fresh rfl rfl e
  obtain ⟨X, c2⟩ := call_val (vf := f_cases c0) (as := []) (m := [.lst (gs.map T.int), .rcd [("great", .own 0), ("stirred", .val (.int x))]]) rfl rfl cases_eq
  obtain ⟨fo, x', gs', ⟨sub', e3, es⟩, hm, _, _, _⟩ := mix_ok (us := casesT) (fd := f_draw c0) draw_k cases_good (by rw [cases_len]; decide) (gs := gs) (by omega) hx
  rw [← f_mixed_eq] at e3
  have c3 := call_deal (m := [.lst (gs.map T.int), .rcd [("great", .own 0), ("stirred", .val (.int x))]] ++ X) (d := 1) (g := 0) (key := "stirred") (x := x) (gs := gs) rfl rfl (by decide) (v0c (t := .lst casesT) v0n) e3 (by rw [es]; simp [dealM])
  have it : vItems (vCall (f_mixed c0) (vCons (vVar 1) (vCons (vCall (f_cases c0) vNil) vNil))) ⟨[some (.val (.seq (ns.map T.int))), some (.own 1), none, none, none, none, none, none, none, none], [.lst (gs.map T.int), .rcd [("great", .own 0), ("stirred", .val (.int x))]]⟩ = rM fo _ :=
    si_items (se_call (sa_cons (se_var rfl) (sa_cons (se_call sa_nil c2) sa_nil)) c3) rfl
  obtain ⟨s', el⟩ := loopL fo hm ⟨[some (.val (.seq (ns.map T.int))), some (.own 1), none, none, none, none, none, none, none, none], putAll [1, 0] ([.lst (gs.map T.int), .rcd [("great", .own 0), ("stirred", .val (.int x))]] ++ X) sub'⟩ rfl
  refine ⟨s'.m, sd_rt (f := b_law c0) (s1 := s') ?_⟩
  rw [b_law_eq]
  exact st_seq (st_set (se_call (sa_cons (se_var rfl) (sa_cons se_c sa_nil)) c1)) (st_seq (st_for it el) (st_ret se_c))
end Vw
end
namespace Vw
theorem ht_mk {q : PySem.Program} {K : PySem.Params → PySem.W.Frag} {p : PySem.Addr × PySem.Addr} (x : PySem.Str) (h : ((PyProof.Rows.recsOf q).find? (fun e => e.name == x)).isSome = true) (t : ∀ w : PySem.World, PySem.W.tabIn (K w.params) x = some p) : ∃ x : PySem.Str, ∃ e, (PyProof.Rows.recsOf q).find? (fun e => e.name == x) = some e ∧ ∀ w : PySem.World, PySem.W.tabIn (K w.params) x = some p := by
  obtain ⟨e, he⟩ := Option.isSome_iff_exists.mp h
  exact ⟨x, e, he, t⟩
end Vw
open PySem PySem.W PyProof.Rows
set_option maxRecDepth 100000 in
set_option maxHeartbeats 0 in
theorem PySem.Challenge.cw_outermost_k27_wishes_known_holds : PySem.Challenge.rw_outermost_k27_wishes_known.Holds := by
  w_on; o_law; k_head; (case hw => w_witness2)
  k_fill
  refine Vs.walk_ofTab (l := PySem.Challenge.rw_outermost_k27_wishes_known) (n := 63) (k := 46) (x := "_law_script") (CX := fun w => L2.CX (PySem.Challenge.rw_outermost_k27_wishes_known).prog w) (sp := fun w => @Vs.SpV (Vw.ww (PySem.Challenge.rw_outermost_k27_wishes_known).prog w) _ 1 (Vw.f_law Vw.c0)) Vw.cs0 rfl (by decide) rfl ⟨rfl, by decide, by decide⟩ (fun w h Y => PySem.W.km_in_of Y) ?HT ?NT ?F (fun w H a ns hl hT hS => @Vs.law_sp (Vw.ww (PySem.Challenge.rw_outermost_k27_wishes_known).prog w) (Vw.ww (PySem.Challenge.rw_outermost_k27_wishes_known).prog w) _ _ _ Vw.pure_law H a ns hl hS rfl (fun p hp => (by (rcases List.mem_cons.mp hp with rfl | hp; exact hT (Vw.cs0.getD 0 (0, 0)) (by decide)); cases hp))) (fun w H s e s' h => (letI : Vs.WW := Vw.ww (PySem.Challenge.rw_outermost_k27_wishes_known).prog w; Vs.cx_end h))
  case HT => exact (fun p hp => (by (rcases List.mem_cons.mp hp with rfl | hp; exact Vw.ht_mk "reached_standings" (by kernel_rfl) (fun w => by kernel_rfl)); cases hp))
  case NT => exact (fun p hp w => (by (rcases List.mem_cons.mp hp with rfl | hp; kernel_rfl); cases hp))
  case F =>
    intro w mg fa h KX G hmg
    letI : Vs.WW := Vw.ww (PySem.Challenge.rw_outermost_k27_wishes_known).prog w
    refine' Exists.imp (fun fd z => And.intro z.1 fun base => z.2 base) (Vw.all_mk (P := (PySem.Challenge.rw_outermost_k27_wishes_known).prog) (w := w) KX G hmg ?a_WrapError ?a_InvalidRow ?a_InvalidStack ?a_InvalidText ?a_InvalidWish ?a_NoRow ?a_Row ?a_Keep ?a_Tries ?a_Limit ?a_Leave ?a_Soft ?a_Count ?a_Lend ?a_Call ?a_Stack ?z_int ?z_abs ?z_len ?z_range ?z_list ?z_tuple ?z_str ?z_max ?z_min ?z_sorted ?z_enumerate ?z_zip ?z_isinstance ?z_bool ?z_any ?z_all ?z_sum ?cl_Row ?cl_Keep ?cl_Tries ?cl_Limit ?cl_Leave ?cl_Soft ?cl_Count ?cl_Lend ?cl_Call ?cl_Stack ?oc_n ?oc_t ?ca_Row ?cm_Row ?ca_Keep ?cm_Keep ?ca_Tries ?cm_Tries ?ca_Limit ?cm_Limit ?ca_Leave ?cm_Leave ?ca_Soft ?cm_Soft ?ca_Count ?cm_Count ?ca_Lend ?cm_Lend ?ca_Call ?cm_Call ?ca_Stack ?cm_Stack ?no_rows_Row ?no_rows_Keep ?no_rows_Tries ?no_rows_Limit ?no_rows_Leave ?no_rows_Soft ?no_rows_Count ?no_rows_Lend ?no_rows_Call ?no_rows_Stack ?no_life_Row ?no_life_Keep ?no_life_Tries ?no_life_Limit ?no_life_Leave ?no_life_Soft ?no_life_Count ?no_life_Lend ?no_life_Call ?no_life_Stack ?no_what_Row ?no_what_Keep ?no_what_Tries ?no_what_Limit ?no_what_Leave ?no_what_Soft ?no_what_Count ?no_what_Lend ?no_what_Call ?no_what_Stack ?no_on_Row ?no_on_Keep ?no_on_Tries ?no_on_Limit ?no_on_Leave ?no_on_Soft ?no_on_Count ?no_on_Lend ?no_on_Call ?no_on_Stack ?no_many_Row ?no_many_Keep ?no_many_Tries ?no_many_Limit ?no_many_Leave ?no_many_Soft ?no_many_Count ?no_many_Lend ?no_many_Call ?no_many_Stack ?no_outcomes_Row ?no_outcomes_Keep ?no_outcomes_Tries ?no_outcomes_Limit ?no_outcomes_Leave ?no_outcomes_Soft ?no_outcomes_Count ?no_outcomes_Lend ?no_outcomes_Call ?no_outcomes_Stack ?no_tries_Row ?no_tries_Keep ?no_tries_Tries ?no_tries_Limit ?no_tries_Leave ?no_tries_Soft ?no_tries_Count ?no_tries_Lend ?no_tries_Call ?no_tries_Stack ?no_limits_Row ?no_limits_Keep ?no_limits_Tries ?no_limits_Limit ?no_limits_Leave ?no_limits_Soft ?no_limits_Count ?no_limits_Lend ?no_limits_Call ?no_limits_Stack ?no_cut_by_Row ?no_cut_by_Keep ?no_cut_by_Tries ?no_cut_by_Limit ?no_cut_by_Leave ?no_cut_by_Soft ?no_cut_by_Count ?no_cut_by_Lend ?no_cut_by_Call ?no_cut_by_Stack ?no_counts_Row ?no_counts_Keep ?no_counts_Tries ?no_counts_Limit ?no_counts_Leave ?no_counts_Soft ?no_counts_Count ?no_counts_Lend ?no_counts_Call ?no_counts_Stack ?no_stored_Row ?no_stored_Keep ?no_stored_Tries ?no_stored_Limit ?no_stored_Leave ?no_stored_Soft ?no_stored_Count ?no_stored_Lend ?no_stored_Call ?no_stored_Stack ?no_held_Row ?no_held_Keep ?no_held_Tries ?no_held_Limit ?no_held_Leave ?no_held_Soft ?no_held_Count ?no_held_Lend ?no_held_Call ?no_held_Stack ?no_given_Row ?no_given_Keep ?no_given_Tries ?no_given_Limit ?no_given_Leave ?no_given_Soft ?no_given_Count ?no_given_Lend ?no_given_Call ?no_given_Stack ?no_behind_Row ?no_behind_Keep ?no_behind_Tries ?no_behind_Limit ?no_behind_Leave ?no_behind_Soft ?no_behind_Count ?no_behind_Lend ?no_behind_Call ?no_behind_Stack ?no_answer_Row ?no_answer_Keep ?no_answer_Tries ?no_answer_Limit ?no_answer_Leave ?no_answer_Soft ?no_answer_Count ?no_answer_Lend ?no_answer_Call ?no_answer_Stack ?no_caller_Row ?no_caller_Keep ?no_caller_Tries ?no_caller_Limit ?no_caller_Leave ?no_caller_Soft ?no_caller_Count ?no_caller_Lend ?no_caller_Call ?no_caller_Stack ?st_Row_list ?st_Keep_list ?st_Tries_list ?st_Limit_list ?st_Leave_list ?st_Soft_list ?st_Count_list ?st_Lend_list ?st_Call_list ?st_Stack_list ?st_Row_tuple ?st_Keep_tuple ?st_Tries_tuple ?st_Limit_tuple ?st_Leave_tuple ?st_Soft_tuple ?st_Count_tuple ?st_Lend_tuple ?st_Call_tuple ?st_Stack_tuple ?ic_Row ?tc_Row ?sb_NoneType_Row ?sb_bool_Row ?sb_int_Row ?sb_str_Row ?sb_list_Row ?sb_tuple_Row ?ss_Row_Row ?ss_Keep_Row ?ss_Tries_Row ?ss_Limit_Row ?ss_Leave_Row ?ss_Soft_Row ?ss_Count_Row ?ss_Lend_Row ?ss_Call_Row ?ne_Call_Row ?ss_Stack_Row ?ne_Stack_Row ?st_Row_bool ?st_Keep_bool ?st_Tries_bool ?st_Limit_bool ?st_Leave_bool ?st_Soft_bool ?st_Count_bool ?st_Lend_bool ?st_Call_bool ?st_Stack_bool ?st_Row_int ?st_Keep_int ?st_Tries_int ?st_Limit_int ?st_Leave_int ?st_Soft_int ?st_Count_int ?st_Lend_int ?st_Call_int ?st_Stack_int ?st_Row_str ?st_Keep_str ?st_Tries_str ?st_Limit_str ?st_Leave_str ?st_Soft_str ?st_Count_str ?st_Lend_str ?st_Call_str ?st_Stack_str ?ic_Lend ?tc_Lend ?sb_NoneType_Lend ?sb_bool_Lend ?sb_int_Lend ?sb_str_Lend ?sb_list_Lend ?sb_tuple_Lend ?ss_Row_Lend ?ne_Row_Lend ?ss_Keep_Lend ?ne_Keep_Lend ?ss_Tries_Lend ?ne_Tries_Lend ?ss_Limit_Lend ?ne_Limit_Lend ?ss_Leave_Lend ?ne_Leave_Lend ?ss_Soft_Lend ?ne_Soft_Lend ?ss_Count_Lend ?ne_Count_Lend ?ss_Lend_Lend ?ss_Call_Lend ?ne_Call_Lend ?ss_Stack_Lend ?ne_Stack_Lend ?ic_Count ?tc_Count ?sb_NoneType_Count ?sb_bool_Count ?sb_int_Count ?sb_str_Count ?sb_list_Count ?sb_tuple_Count ?ss_Row_Count ?ne_Row_Count ?ss_Keep_Count ?ne_Keep_Count ?ss_Tries_Count ?ne_Tries_Count ?ss_Limit_Count ?ne_Limit_Count ?ss_Leave_Count ?ne_Leave_Count ?ss_Soft_Count ?ne_Soft_Count ?ss_Count_Count ?ss_Lend_Count ?ne_Lend_Count ?ss_Call_Count ?ne_Call_Count ?ss_Stack_Count ?ne_Stack_Count ?ic_Leave ?tc_Leave ?sb_NoneType_Leave ?sb_bool_Leave ?sb_int_Leave ?sb_str_Leave ?sb_list_Leave ?sb_tuple_Leave ?ss_Row_Leave ?ne_Row_Leave ?ss_Keep_Leave ?ne_Keep_Leave ?ss_Tries_Leave ?ne_Tries_Leave ?ss_Limit_Leave ?ne_Limit_Leave ?ss_Leave_Leave ?ss_Soft_Leave ?ne_Soft_Leave ?ss_Count_Leave ?ne_Count_Leave ?ss_Lend_Leave ?ne_Lend_Leave ?ss_Call_Leave ?ne_Call_Leave ?ss_Stack_Leave ?ne_Stack_Leave ?ic_Soft ?tc_Soft ?sb_NoneType_Soft ?sb_bool_Soft ?sb_int_Soft ?sb_str_Soft ?sb_list_Soft ?sb_tuple_Soft ?ss_Row_Soft ?ne_Row_Soft ?ss_Keep_Soft ?ne_Keep_Soft ?ss_Tries_Soft ?ne_Tries_Soft ?ss_Limit_Soft ?ne_Limit_Soft ?ss_Leave_Soft ?ne_Leave_Soft ?ss_Soft_Soft ?ss_Count_Soft ?ne_Count_Soft ?ss_Lend_Soft ?ne_Lend_Soft ?ss_Call_Soft ?ne_Call_Soft ?ss_Stack_Soft ?ne_Stack_Soft ?ic_Limit ?tc_Limit ?sb_NoneType_Limit ?sb_bool_Limit ?sb_int_Limit ?sb_str_Limit ?sb_list_Limit ?sb_tuple_Limit ?ss_Row_Limit ?ne_Row_Limit ?ss_Keep_Limit ?ne_Keep_Limit ?ss_Tries_Limit ?ne_Tries_Limit ?ss_Limit_Limit ?ss_Leave_Limit ?ne_Leave_Limit ?ss_Soft_Limit ?ne_Soft_Limit ?ss_Count_Limit ?ne_Count_Limit ?ss_Lend_Limit ?ne_Lend_Limit ?ss_Call_Limit ?ne_Call_Limit ?ss_Stack_Limit ?ne_Stack_Limit ?ic_Tries ?tc_Tries ?sb_NoneType_Tries ?sb_bool_Tries ?sb_int_Tries ?sb_str_Tries ?sb_list_Tries ?sb_tuple_Tries ?ss_Row_Tries ?ne_Row_Tries ?ss_Keep_Tries ?ne_Keep_Tries ?ss_Tries_Tries ?ss_Limit_Tries ?ne_Limit_Tries ?ss_Leave_Tries ?ne_Leave_Tries ?ss_Soft_Tries ?ne_Soft_Tries ?ss_Count_Tries ?ne_Count_Tries ?ss_Lend_Tries ?ne_Lend_Tries ?ss_Call_Tries ?ne_Call_Tries ?ss_Stack_Tries ?ne_Stack_Tries ?ic_Keep ?tc_Keep ?sb_NoneType_Keep ?sb_bool_Keep ?sb_int_Keep ?sb_str_Keep ?sb_list_Keep ?sb_tuple_Keep ?ss_Row_Keep ?ne_Row_Keep ?ss_Keep_Keep ?ss_Tries_Keep ?ne_Tries_Keep ?ss_Limit_Keep ?ne_Limit_Keep ?ss_Leave_Keep ?ne_Leave_Keep ?ss_Soft_Keep ?ne_Soft_Keep ?ss_Count_Keep ?ne_Count_Keep ?ss_Lend_Keep ?ne_Lend_Keep ?ss_Call_Keep ?ne_Call_Keep ?ss_Stack_Keep ?ne_Stack_Keep ?g_LIVES ?l_LIVES ?g_KEPT_ANSWERS ?l_KEPT_ANSWERS ?g_FAULTS ?l_FAULTS ?g_MOST_ASKED ?l_MOST_ASKED ?g_MOST_TRIES ?l_MOST_TRIES ?g_BAD ?l_BAD ?g_CALLERS ?l_CALLERS ?g_WISHES ?l_WISHES ?gd_BOUNDS ?dw_BOUNDS ?dk_BOUNDS_5 ?dk_BOUNDS_4 ?dk_BOUNDS_3 ?dk_BOUNDS_2 ?dk_BOUNDS_1 ?dk_BOUNDS_0 ?di_BOUNDS_8 ?di_BOUNDS_7 ?di_BOUNDS_6 ?di_BOUNDS_5 ?di_BOUNDS_4 ?di_BOUNDS_3 ?di_BOUNDS_2 ?di_BOUNDS_1 ?di_BOUNDS_0 ?gd_BREAKS ?dw_BREAKS ?a_fn_breaks_tries ?dk_BREAKS_6 ?a_fn_breaks_spare ?dk_BREAKS_5 ?a_fn_breaks_once ?dk_BREAKS_4 ?a_fn_breaks_leave ?dk_BREAKS_3 ?a_fn_breaks_kept ?dk_BREAKS_2 ?a_fn_breaks_fresh ?dk_BREAKS_1 ?a_fn_breaks_calm ?dk_BREAKS_0 ?di_BREAKS_7 ?di_BREAKS_6 ?di_BREAKS_5 ?di_BREAKS_4 ?di_BREAKS_3 ?di_BREAKS_2 ?di_BREAKS_1 ?di_BREAKS_0 ?gd_FAULTS_OF ?dw_FAULTS_OF ?dk_FAULTS_OF_1 ?dl_FAULTS_OF_1 ?dk_FAULTS_OF_0 ?dl_FAULTS_OF_0 ?mo_Lend ?mo_Count ?mo_Leave ?mk_Keep ?mk_Tries ?mk_Limit ?mk_Soft ?mk_Call ?mk_Stack ?own_Row ?own_Keep ?own_Tries ?own_Limit ?own_Leave ?own_Soft ?own_Count ?own_Lend ?a_fn__law_deal ?F_deal ?a_fn__law_draw ?F_draw ?a_fn__law_mixed ?F_mixed ?a_fn__law_cases ?F_cases ?a_fn_is_sequence ?F_is_sequence ?a_fn_rows_of ?F_rows_of ?F_Stack_init ?l0_Stack_init ?a_fn_check_argument ?F_check_argument ?a_fn_is_integer ?F_is_integer ?a_fn_is_one_of ?F_is_one_of ?F_Keep_init ?F_Tries_init ?F_Limit_init ?F_Soft_init ?a_fn_every_row ?F_every_row ?mt_Keep_words ?F_Keep_words ?mt_Tries_words ?F_Tries_words ?mt_Limit_words ?F_Limit_words ?mt_Leave_words ?F_Leave_words ?mt_Soft_words ?F_Soft_words ?mt_Count_words ?F_Count_words ?mt_Lend_words ?F_Lend_words ?F_Row_str ?cr_Row_read ?cmt_Row_read ?F_Row_read ?a_fn_rows_in ?F_rows_in ?cr_Stack_read ?cmt_Stack_read ?F_Stack_read ?a_fn_is_wish ?F_is_wish ?a_fn_check_wish ?F_check_wish ?a_fn_reached ?F_reached ?a_fn_begun ?F_begun ?mt_Call_make_try ?F_Call_make_try ?a_fn_may_store ?F_may_store ?mt_Call_ask ?F_Call_ask ?mt_Call_ask_keeper ?F_Call_ask_keeper ?mt_Call_ask_repeatedly ?F_Call_ask_repeatedly ?mt_Call_ask_limited ?F_Call_ask_limited ?mt_Call_ask_softly ?F_Call_ask_softly ?F_Call_init ?a_fn_calls_of ?F_calls_of ?a_fn_calls_from ?F_calls_from ?a_fn_aged ?F_aged ?a_fn_ticked ?F_ticked ?a_fn_event_of ?F_event_of ?a_fn_events_from ?F_events_from ?a_fn_reached_standings ?F_reached_standings ?F_breaks_calm ?F_breaks_fresh ?F_breaks_kept ?F_breaks_leave ?F_breaks_once ?F_breaks_spare ?F_breaks_tries ?a_fn_breaks ?F_breaks ?a_fn_trail ?F_trail ?a_fn_breach ?F_breach ?a_fn_standings ?F_standings ?a_fn_possible_calls ?F_possible_calls ?a_fn_most_tries ?F_most_tries ?a_fn_kept_of ?F_kept_of ?a_fn_kept_wishes ?F_kept_wishes ?a_fn_law ?F_law ?ci_reached_standings ?tn_reached_standings)
    (case a_WrapError => k_is)
    (case a_InvalidRow => k_is)
    (case a_InvalidStack => k_is)
    (case a_InvalidText => k_is)
    (case a_InvalidWish => k_is)
    (case a_NoRow => k_is)
    (case a_Row => k_is)
    (case a_Keep => k_is)
    (case a_Tries => k_is)
    (case a_Limit => k_is)
    (case a_Leave => k_is)
    (case a_Soft => k_is)
    (case a_Count => k_is)
    (case a_Lend => k_is)
    (case a_Call => k_is)
    (case a_Stack => k_is)
    (case z_int => k_is)
    (case z_abs => k_is)
    (case z_len => k_is)
    (case z_range => k_is)
    (case z_list => k_is)
    (case z_tuple => k_is)
    (case z_str => k_is)
    (case z_max => k_is)
    (case z_min => k_is)
    (case z_sorted => k_is)
    (case z_enumerate => k_is)
    (case z_zip => k_is)
    (case z_isinstance => k_is)
    (case z_bool => k_is)
    (case z_any => k_is)
    (case z_all => k_is)
    (case z_sum => k_is)
    (case cl_Row => (constructor <;> k_is))
    (case cl_Keep => (constructor <;> k_is))
    (case cl_Tries => (constructor <;> k_is))
    (case cl_Limit => (constructor <;> k_is))
    (case cl_Leave => (constructor <;> k_is))
    (case cl_Soft => (constructor <;> k_is))
    (case cl_Count => (constructor <;> k_is))
    (case cl_Lend => (constructor <;> k_is))
    (case cl_Call => (constructor <;> k_is))
    (case cl_Stack => (constructor <;> k_is))
    (case oc_n => k_is)
    (case oc_t => k_is)
    (case ca_Row => k_is)
    (case cm_Row => k_is)
    (case ca_Keep => k_is)
    (case cm_Keep => k_is)
    (case ca_Tries => k_is)
    (case cm_Tries => k_is)
    (case ca_Limit => k_is)
    (case cm_Limit => k_is)
    (case ca_Leave => k_is)
    (case cm_Leave => k_is)
    (case ca_Soft => k_is)
    (case cm_Soft => k_is)
    (case ca_Count => k_is)
    (case cm_Count => k_is)
    (case ca_Lend => k_is)
    (case cm_Lend => k_is)
    (case ca_Call => k_is)
    (case cm_Call => k_is)
    (case ca_Stack => k_is)
    (case cm_Stack => k_is)
    (case no_rows_Row => k_is)
    (case no_rows_Keep => k_is)
    (case no_rows_Tries => k_is)
    (case no_rows_Limit => k_is)
    (case no_rows_Leave => k_is)
    (case no_rows_Soft => k_is)
    (case no_rows_Count => k_is)
    (case no_rows_Lend => k_is)
    (case no_rows_Call => k_is)
    (case no_rows_Stack => k_is)
    (case no_life_Row => k_is)
    (case no_life_Keep => k_is)
    (case no_life_Tries => k_is)
    (case no_life_Limit => k_is)
    (case no_life_Leave => k_is)
    (case no_life_Soft => k_is)
    (case no_life_Count => k_is)
    (case no_life_Lend => k_is)
    (case no_life_Call => k_is)
    (case no_life_Stack => k_is)
    (case no_what_Row => k_is)
    (case no_what_Keep => k_is)
    (case no_what_Tries => k_is)
    (case no_what_Limit => k_is)
    (case no_what_Leave => k_is)
    (case no_what_Soft => k_is)
    (case no_what_Count => k_is)
    (case no_what_Lend => k_is)
    (case no_what_Call => k_is)
    (case no_what_Stack => k_is)
    (case no_on_Row => k_is)
    (case no_on_Keep => k_is)
    (case no_on_Tries => k_is)
    (case no_on_Limit => k_is)
    (case no_on_Leave => k_is)
    (case no_on_Soft => k_is)
    (case no_on_Count => k_is)
    (case no_on_Lend => k_is)
    (case no_on_Call => k_is)
    (case no_on_Stack => k_is)
    (case no_many_Row => k_is)
    (case no_many_Keep => k_is)
    (case no_many_Tries => k_is)
    (case no_many_Limit => k_is)
    (case no_many_Leave => k_is)
    (case no_many_Soft => k_is)
    (case no_many_Count => k_is)
    (case no_many_Lend => k_is)
    (case no_many_Call => k_is)
    (case no_many_Stack => k_is)
    (case no_outcomes_Row => k_is)
    (case no_outcomes_Keep => k_is)
    (case no_outcomes_Tries => k_is)
    (case no_outcomes_Limit => k_is)
    (case no_outcomes_Leave => k_is)
    (case no_outcomes_Soft => k_is)
    (case no_outcomes_Count => k_is)
    (case no_outcomes_Lend => k_is)
    (case no_outcomes_Call => k_is)
    (case no_outcomes_Stack => k_is)
    (case no_tries_Row => k_is)
    (case no_tries_Keep => k_is)
    (case no_tries_Tries => k_is)
    (case no_tries_Limit => k_is)
    (case no_tries_Leave => k_is)
    (case no_tries_Soft => k_is)
    (case no_tries_Count => k_is)
    (case no_tries_Lend => k_is)
    (case no_tries_Call => k_is)
    (case no_tries_Stack => k_is)
    (case no_limits_Row => k_is)
    (case no_limits_Keep => k_is)
    (case no_limits_Tries => k_is)
    (case no_limits_Limit => k_is)
    (case no_limits_Leave => k_is)
    (case no_limits_Soft => k_is)
    (case no_limits_Count => k_is)
    (case no_limits_Lend => k_is)
    (case no_limits_Call => k_is)
    (case no_limits_Stack => k_is)
    (case no_cut_by_Row => k_is)
    (case no_cut_by_Keep => k_is)
    (case no_cut_by_Tries => k_is)
    (case no_cut_by_Limit => k_is)
    (case no_cut_by_Leave => k_is)
    (case no_cut_by_Soft => k_is)
    (case no_cut_by_Count => k_is)
    (case no_cut_by_Lend => k_is)
    (case no_cut_by_Call => k_is)
    (case no_cut_by_Stack => k_is)
    (case no_counts_Row => k_is)
    (case no_counts_Keep => k_is)
    (case no_counts_Tries => k_is)
    (case no_counts_Limit => k_is)
    (case no_counts_Leave => k_is)
    (case no_counts_Soft => k_is)
    (case no_counts_Count => k_is)
    (case no_counts_Lend => k_is)
    (case no_counts_Call => k_is)
    (case no_counts_Stack => k_is)
    (case no_stored_Row => k_is)
    (case no_stored_Keep => k_is)
    (case no_stored_Tries => k_is)
    (case no_stored_Limit => k_is)
    (case no_stored_Leave => k_is)
    (case no_stored_Soft => k_is)
    (case no_stored_Count => k_is)
    (case no_stored_Lend => k_is)
    (case no_stored_Call => k_is)
    (case no_stored_Stack => k_is)
    (case no_held_Row => k_is)
    (case no_held_Keep => k_is)
    (case no_held_Tries => k_is)
    (case no_held_Limit => k_is)
    (case no_held_Leave => k_is)
    (case no_held_Soft => k_is)
    (case no_held_Count => k_is)
    (case no_held_Lend => k_is)
    (case no_held_Call => k_is)
    (case no_held_Stack => k_is)
    (case no_given_Row => k_is)
    (case no_given_Keep => k_is)
    (case no_given_Tries => k_is)
    (case no_given_Limit => k_is)
    (case no_given_Leave => k_is)
    (case no_given_Soft => k_is)
    (case no_given_Count => k_is)
    (case no_given_Lend => k_is)
    (case no_given_Call => k_is)
    (case no_given_Stack => k_is)
    (case no_behind_Row => k_is)
    (case no_behind_Keep => k_is)
    (case no_behind_Tries => k_is)
    (case no_behind_Limit => k_is)
    (case no_behind_Leave => k_is)
    (case no_behind_Soft => k_is)
    (case no_behind_Count => k_is)
    (case no_behind_Lend => k_is)
    (case no_behind_Call => k_is)
    (case no_behind_Stack => k_is)
    (case no_answer_Row => k_is)
    (case no_answer_Keep => k_is)
    (case no_answer_Tries => k_is)
    (case no_answer_Limit => k_is)
    (case no_answer_Leave => k_is)
    (case no_answer_Soft => k_is)
    (case no_answer_Count => k_is)
    (case no_answer_Lend => k_is)
    (case no_answer_Call => k_is)
    (case no_answer_Stack => k_is)
    (case no_caller_Row => k_is)
    (case no_caller_Keep => k_is)
    (case no_caller_Tries => k_is)
    (case no_caller_Limit => k_is)
    (case no_caller_Leave => k_is)
    (case no_caller_Soft => k_is)
    (case no_caller_Count => k_is)
    (case no_caller_Lend => k_is)
    (case no_caller_Call => k_is)
    (case no_caller_Stack => k_is)
    (case st_Row_list => k_is)
    (case st_Keep_list => k_is)
    (case st_Tries_list => k_is)
    (case st_Limit_list => k_is)
    (case st_Leave_list => k_is)
    (case st_Soft_list => k_is)
    (case st_Count_list => k_is)
    (case st_Lend_list => k_is)
    (case st_Call_list => k_is)
    (case st_Stack_list => k_is)
    (case st_Row_tuple => k_is)
    (case st_Keep_tuple => k_is)
    (case st_Tries_tuple => k_is)
    (case st_Limit_tuple => k_is)
    (case st_Leave_tuple => k_is)
    (case st_Soft_tuple => k_is)
    (case st_Count_tuple => k_is)
    (case st_Lend_tuple => k_is)
    (case st_Call_tuple => k_is)
    (case st_Stack_tuple => k_is)
    (case ic_Row => k_is)
    (case tc_Row => k_is)
    (case sb_NoneType_Row => k_is)
    (case sb_bool_Row => k_is)
    (case sb_int_Row => k_is)
    (case sb_str_Row => k_is)
    (case sb_list_Row => k_is)
    (case sb_tuple_Row => k_is)
    (case ss_Row_Row => first | rfl | k_is)
    (case ss_Keep_Row => k_is)
    (case ss_Tries_Row => k_is)
    (case ss_Limit_Row => k_is)
    (case ss_Leave_Row => k_is)
    (case ss_Soft_Row => k_is)
    (case ss_Count_Row => k_is)
    (case ss_Lend_Row => k_is)
    (case ss_Call_Row => k_is)
    (case ne_Call_Row => decide)
    (case ss_Stack_Row => k_is)
    (case ne_Stack_Row => decide)
    (case st_Row_bool => k_is)
    (case st_Keep_bool => k_is)
    (case st_Tries_bool => k_is)
    (case st_Limit_bool => k_is)
    (case st_Leave_bool => k_is)
    (case st_Soft_bool => k_is)
    (case st_Count_bool => k_is)
    (case st_Lend_bool => k_is)
    (case st_Call_bool => k_is)
    (case st_Stack_bool => k_is)
    (case st_Row_int => k_is)
    (case st_Keep_int => k_is)
    (case st_Tries_int => k_is)
    (case st_Limit_int => k_is)
    (case st_Leave_int => k_is)
    (case st_Soft_int => k_is)
    (case st_Count_int => k_is)
    (case st_Lend_int => k_is)
    (case st_Call_int => k_is)
    (case st_Stack_int => k_is)
    (case st_Row_str => k_is)
    (case st_Keep_str => k_is)
    (case st_Tries_str => k_is)
    (case st_Limit_str => k_is)
    (case st_Leave_str => k_is)
    (case st_Soft_str => k_is)
    (case st_Count_str => k_is)
    (case st_Lend_str => k_is)
    (case st_Call_str => k_is)
    (case st_Stack_str => k_is)
    (case ic_Lend => k_is)
    (case tc_Lend => k_is)
    (case sb_NoneType_Lend => k_is)
    (case sb_bool_Lend => k_is)
    (case sb_int_Lend => k_is)
    (case sb_str_Lend => k_is)
    (case sb_list_Lend => k_is)
    (case sb_tuple_Lend => k_is)
    (case ss_Row_Lend => k_is)
    (case ne_Row_Lend => decide)
    (case ss_Keep_Lend => k_is)
    (case ne_Keep_Lend => decide)
    (case ss_Tries_Lend => k_is)
    (case ne_Tries_Lend => decide)
    (case ss_Limit_Lend => k_is)
    (case ne_Limit_Lend => decide)
    (case ss_Leave_Lend => k_is)
    (case ne_Leave_Lend => decide)
    (case ss_Soft_Lend => k_is)
    (case ne_Soft_Lend => decide)
    (case ss_Count_Lend => k_is)
    (case ne_Count_Lend => decide)
    (case ss_Lend_Lend => first | rfl | k_is)
    (case ss_Call_Lend => k_is)
    (case ne_Call_Lend => decide)
    (case ss_Stack_Lend => k_is)
    (case ne_Stack_Lend => decide)
    (case ic_Count => k_is)
    (case tc_Count => k_is)
    (case sb_NoneType_Count => k_is)
    (case sb_bool_Count => k_is)
    (case sb_int_Count => k_is)
    (case sb_str_Count => k_is)
    (case sb_list_Count => k_is)
    (case sb_tuple_Count => k_is)
    (case ss_Row_Count => k_is)
    (case ne_Row_Count => decide)
    (case ss_Keep_Count => k_is)
    (case ne_Keep_Count => decide)
    (case ss_Tries_Count => k_is)
    (case ne_Tries_Count => decide)
    (case ss_Limit_Count => k_is)
    (case ne_Limit_Count => decide)
    (case ss_Leave_Count => k_is)
    (case ne_Leave_Count => decide)
    (case ss_Soft_Count => k_is)
    (case ne_Soft_Count => decide)
    (case ss_Count_Count => first | rfl | k_is)
    (case ss_Lend_Count => k_is)
    (case ne_Lend_Count => decide)
    (case ss_Call_Count => k_is)
    (case ne_Call_Count => decide)
    (case ss_Stack_Count => k_is)
    (case ne_Stack_Count => decide)
    (case ic_Leave => k_is)
    (case tc_Leave => k_is)
    (case sb_NoneType_Leave => k_is)
    (case sb_bool_Leave => k_is)
    (case sb_int_Leave => k_is)
    (case sb_str_Leave => k_is)
    (case sb_list_Leave => k_is)
    (case sb_tuple_Leave => k_is)
    (case ss_Row_Leave => k_is)
    (case ne_Row_Leave => decide)
    (case ss_Keep_Leave => k_is)
    (case ne_Keep_Leave => decide)
    (case ss_Tries_Leave => k_is)
    (case ne_Tries_Leave => decide)
    (case ss_Limit_Leave => k_is)
    (case ne_Limit_Leave => decide)
    (case ss_Leave_Leave => first | rfl | k_is)
    (case ss_Soft_Leave => k_is)
    (case ne_Soft_Leave => decide)
    (case ss_Count_Leave => k_is)
    (case ne_Count_Leave => decide)
    (case ss_Lend_Leave => k_is)
    (case ne_Lend_Leave => decide)
    (case ss_Call_Leave => k_is)
    (case ne_Call_Leave => decide)
    (case ss_Stack_Leave => k_is)
    (case ne_Stack_Leave => decide)
    (case ic_Soft => k_is)
    (case tc_Soft => k_is)
    (case sb_NoneType_Soft => k_is)
    (case sb_bool_Soft => k_is)
    (case sb_int_Soft => k_is)
    (case sb_str_Soft => k_is)
    (case sb_list_Soft => k_is)
    (case sb_tuple_Soft => k_is)
    (case ss_Row_Soft => k_is)
    (case ne_Row_Soft => decide)
    (case ss_Keep_Soft => k_is)
    (case ne_Keep_Soft => decide)
    (case ss_Tries_Soft => k_is)
    (case ne_Tries_Soft => decide)
    (case ss_Limit_Soft => k_is)
    (case ne_Limit_Soft => decide)
    (case ss_Leave_Soft => k_is)
    (case ne_Leave_Soft => decide)
    (case ss_Soft_Soft => first | rfl | k_is)
    (case ss_Count_Soft => k_is)
    (case ne_Count_Soft => decide)
    (case ss_Lend_Soft => k_is)
    (case ne_Lend_Soft => decide)
    (case ss_Call_Soft => k_is)
    (case ne_Call_Soft => decide)
    (case ss_Stack_Soft => k_is)
    (case ne_Stack_Soft => decide)
    (case ic_Limit => k_is)
    (case tc_Limit => k_is)
    (case sb_NoneType_Limit => k_is)
    (case sb_bool_Limit => k_is)
    (case sb_int_Limit => k_is)
    (case sb_str_Limit => k_is)
    (case sb_list_Limit => k_is)
    (case sb_tuple_Limit => k_is)
    (case ss_Row_Limit => k_is)
    (case ne_Row_Limit => decide)
    (case ss_Keep_Limit => k_is)
    (case ne_Keep_Limit => decide)
    (case ss_Tries_Limit => k_is)
    (case ne_Tries_Limit => decide)
    (case ss_Limit_Limit => first | rfl | k_is)
    (case ss_Leave_Limit => k_is)
    (case ne_Leave_Limit => decide)
    (case ss_Soft_Limit => k_is)
    (case ne_Soft_Limit => decide)
    (case ss_Count_Limit => k_is)
    (case ne_Count_Limit => decide)
    (case ss_Lend_Limit => k_is)
    (case ne_Lend_Limit => decide)
    (case ss_Call_Limit => k_is)
    (case ne_Call_Limit => decide)
    (case ss_Stack_Limit => k_is)
    (case ne_Stack_Limit => decide)
    (case ic_Tries => k_is)
    (case tc_Tries => k_is)
    (case sb_NoneType_Tries => k_is)
    (case sb_bool_Tries => k_is)
    (case sb_int_Tries => k_is)
    (case sb_str_Tries => k_is)
    (case sb_list_Tries => k_is)
    (case sb_tuple_Tries => k_is)
    (case ss_Row_Tries => k_is)
    (case ne_Row_Tries => decide)
    (case ss_Keep_Tries => k_is)
    (case ne_Keep_Tries => decide)
    (case ss_Tries_Tries => first | rfl | k_is)
    (case ss_Limit_Tries => k_is)
    (case ne_Limit_Tries => decide)
    (case ss_Leave_Tries => k_is)
    (case ne_Leave_Tries => decide)
    (case ss_Soft_Tries => k_is)
    (case ne_Soft_Tries => decide)
    (case ss_Count_Tries => k_is)
    (case ne_Count_Tries => decide)
    (case ss_Lend_Tries => k_is)
    (case ne_Lend_Tries => decide)
    (case ss_Call_Tries => k_is)
    (case ne_Call_Tries => decide)
    (case ss_Stack_Tries => k_is)
    (case ne_Stack_Tries => decide)
    (case ic_Keep => k_is)
    (case tc_Keep => k_is)
    (case sb_NoneType_Keep => k_is)
    (case sb_bool_Keep => k_is)
    (case sb_int_Keep => k_is)
    (case sb_str_Keep => k_is)
    (case sb_list_Keep => k_is)
    (case sb_tuple_Keep => k_is)
    (case ss_Row_Keep => k_is)
    (case ne_Row_Keep => decide)
    (case ss_Keep_Keep => first | rfl | k_is)
    (case ss_Tries_Keep => k_is)
    (case ne_Tries_Keep => decide)
    (case ss_Limit_Keep => k_is)
    (case ne_Limit_Keep => decide)
    (case ss_Leave_Keep => k_is)
    (case ne_Leave_Keep => decide)
    (case ss_Soft_Keep => k_is)
    (case ne_Soft_Keep => decide)
    (case ss_Count_Keep => k_is)
    (case ne_Count_Keep => decide)
    (case ss_Lend_Keep => k_is)
    (case ne_Lend_Keep => decide)
    (case ss_Call_Keep => k_is)
    (case ne_Call_Keep => decide)
    (case ss_Stack_Keep => k_is)
    (case ne_Stack_Keep => decide)
    (case g_LIVES => k_is)
    (case l_LIVES => k_is)
    (case g_KEPT_ANSWERS => k_is)
    (case l_KEPT_ANSWERS => k_is)
    (case g_FAULTS => k_is)
    (case l_FAULTS => k_is)
    (case g_MOST_ASKED => k_is)
    (case l_MOST_ASKED => k_is)
    (case g_MOST_TRIES => k_is)
    (case l_MOST_TRIES => k_is)
    (case g_BAD => k_is)
    (case l_BAD => k_is)
    (case g_CALLERS => k_is)
    (case l_CALLERS => k_is)
    (case g_WISHES => k_is)
    (case l_WISHES => k_is)
    (case gd_BOUNDS => k_is)
    (case dw_BOUNDS => first | rfl | k_is)
    (case dk_BOUNDS_5 => k_is)
    (case dk_BOUNDS_4 => k_is)
    (case dk_BOUNDS_3 => k_is)
    (case dk_BOUNDS_2 => k_is)
    (case dk_BOUNDS_1 => k_is)
    (case dk_BOUNDS_0 => k_is)
    (case di_BOUNDS_8 => k_is)
    (case di_BOUNDS_7 => k_is)
    (case di_BOUNDS_6 => k_is)
    (case di_BOUNDS_5 => k_is)
    (case di_BOUNDS_4 => k_is)
    (case di_BOUNDS_3 => k_is)
    (case di_BOUNDS_2 => k_is)
    (case di_BOUNDS_1 => k_is)
    (case di_BOUNDS_0 => k_is)
    (case gd_BREAKS => k_is)
    (case dw_BREAKS => first | rfl | k_is)
    (case a_fn_breaks_tries => k_is)
    (case dk_BREAKS_6 => k_is)
    (case a_fn_breaks_spare => k_is)
    (case dk_BREAKS_5 => k_is)
    (case a_fn_breaks_once => k_is)
    (case dk_BREAKS_4 => k_is)
    (case a_fn_breaks_leave => k_is)
    (case dk_BREAKS_3 => k_is)
    (case a_fn_breaks_kept => k_is)
    (case dk_BREAKS_2 => k_is)
    (case a_fn_breaks_fresh => k_is)
    (case dk_BREAKS_1 => k_is)
    (case a_fn_breaks_calm => k_is)
    (case dk_BREAKS_0 => k_is)
    (case di_BREAKS_7 => k_is)
    (case di_BREAKS_6 => k_is)
    (case di_BREAKS_5 => k_is)
    (case di_BREAKS_4 => k_is)
    (case di_BREAKS_3 => k_is)
    (case di_BREAKS_2 => k_is)
    (case di_BREAKS_1 => k_is)
    (case di_BREAKS_0 => k_is)
    (case gd_FAULTS_OF => k_is)
    (case dw_FAULTS_OF => first | rfl | k_is)
    (case dk_FAULTS_OF_1 => k_is)
    (case dl_FAULTS_OF_1 => k_is)
    (case dk_FAULTS_OF_0 => k_is)
    (case dl_FAULTS_OF_0 => k_is)
    (case mo_Lend => (constructor <;> k_is))
    (case mo_Count => (constructor <;> k_is))
    (case mo_Leave => (constructor <;> k_is))
    (case mk_Keep => (constructor <;> k_is))
    (case mk_Tries => (constructor <;> k_is))
    (case mk_Limit => (constructor <;> k_is))
    (case mk_Soft => (constructor <;> k_is))
    (case mk_Call => (constructor <;> k_is))
    (case mk_Stack => (constructor <;> k_is))
    (case own_Row => (constructor; (constructor <;> k_is); all_goals k_is))
    (case own_Keep => (constructor; (constructor <;> k_is); all_goals k_is))
    (case own_Tries => (constructor; (constructor <;> k_is); all_goals k_is))
    (case own_Limit => (constructor; (constructor <;> k_is); all_goals k_is))
    (case own_Leave => (constructor; (constructor <;> k_is); all_goals k_is))
    (case own_Soft => (constructor; (constructor <;> k_is); all_goals k_is))
    (case own_Count => (constructor; (constructor <;> k_is); all_goals k_is))
    (case own_Lend => (constructor; (constructor <;> k_is); all_goals k_is))
    (case a_fn__law_deal => k_is)
    (case F_deal => (first | exact L2.fun_mk (by k_is) (by k_is) (by k_is) | (refine' L2.fun_mk ?_ ?_ ?_ <;> try k_is)))
    (case a_fn__law_draw => k_is)
    (case F_draw => (first | exact L2.fun_mk (by k_is) (by k_is) (by k_is) | (refine' L2.fun_mk ?_ ?_ ?_ <;> try k_is)))
    (case a_fn__law_mixed => k_is)
    (case F_mixed => (first | exact L2.fun_mk (by k_is) (by k_is) (by k_is) | (refine' L2.fun_mk ?_ ?_ ?_ <;> try k_is)))
    (case a_fn__law_cases => k_is)
    (case F_cases => (first | exact L2.fun_mk (by k_is) (by k_is) (by k_is) | (refine' L2.fun_mk ?_ ?_ ?_ <;> try k_is)))
    (case a_fn_is_sequence => k_is)
    (case F_is_sequence => (first | exact L2.fun_mk (by k_is) (by k_is) (by k_is) | (refine' L2.fun_mk ?_ ?_ ?_ <;> try k_is)))
    (case a_fn_rows_of => k_is)
    (case F_rows_of => (first | exact L2.fun_mk (by k_is) (by k_is) (by k_is) | (refine' L2.fun_mk ?_ ?_ ?_ <;> try k_is)))
    (case F_Stack_init => (first | exact Vs.fund_mk (by k_is) (by k_is) (by k_is) (by exact (.cons rfl .nil)) (List.cons_ne_nil _ _) (by k_is) | (refine' Vs.fund_mk ?_ ?_ ?_ ?_ (List.cons_ne_nil _ _) ?_ <;> first | k_is | exact (.cons rfl .nil) | skip)))
    (case l0_Stack_init => k_is)
    (case a_fn_check_argument => k_is)
    (case F_check_argument => (first | exact L2.fun_mk (by k_is) (by k_is) (by k_is) | (refine' L2.fun_mk ?_ ?_ ?_ <;> try k_is)))
    (case a_fn_is_integer => k_is)
    (case F_is_integer => (first | exact L2.fun_mk (by k_is) (by k_is) (by k_is) | (refine' L2.fun_mk ?_ ?_ ?_ <;> try k_is)))
    (case a_fn_is_one_of => k_is)
    (case F_is_one_of => (first | exact L2.fun_mk (by k_is) (by k_is) (by k_is) | (refine' L2.fun_mk ?_ ?_ ?_ <;> try k_is)))
    (case F_Keep_init => (first | exact Vs.fund_mk (by k_is) (by k_is) (by k_is) (by exact (.cons ⟨_, rfl⟩ (.cons rfl .nil))) (List.cons_ne_nil _ _) (by k_is) | (refine' Vs.fund_mk ?_ ?_ ?_ ?_ (List.cons_ne_nil _ _) ?_ <;> first | k_is | exact (.cons ⟨_, rfl⟩ (.cons rfl .nil)) | skip)))
    (case F_Tries_init => (first | exact Vs.fund_mk (by k_is) (by k_is) (by k_is) (by exact (.cons ⟨_, rfl⟩ .nil)) (List.cons_ne_nil _ _) (by k_is) | (refine' Vs.fund_mk ?_ ?_ ?_ ?_ (List.cons_ne_nil _ _) ?_ <;> first | k_is | exact (.cons ⟨_, rfl⟩ .nil) | skip)))
    (case F_Limit_init => (first | exact L2.fun_mk (by k_is) (by k_is) (by k_is) | (refine' L2.fun_mk ?_ ?_ ?_ <;> try k_is)))
    (case F_Soft_init => (first | exact Vs.fund_mk (by k_is) (by k_is) (by k_is) (by exact (.cons ⟨_, rfl⟩ .nil)) (List.cons_ne_nil _ _) (by k_is) | (refine' Vs.fund_mk ?_ ?_ ?_ ?_ (List.cons_ne_nil _ _) ?_ <;> first | k_is | exact (.cons ⟨_, rfl⟩ .nil) | skip)))
    (case a_fn_every_row => k_is)
    (case F_every_row => (first | exact L2.fun_mk (by k_is) (by k_is) (by k_is) | (refine' L2.fun_mk ?_ ?_ ?_ <;> try k_is)))
    (case mt_Keep_words => (constructor <;> k_is))
    (case F_Keep_words => (first | exact L2.fun_mk (by k_is) (by k_is) (by k_is) | (refine' L2.fun_mk ?_ ?_ ?_ <;> try k_is)))
    (case mt_Tries_words => (constructor <;> k_is))
    (case F_Tries_words => (first | exact L2.fun_mk (by k_is) (by k_is) (by k_is) | (refine' L2.fun_mk ?_ ?_ ?_ <;> try k_is)))
    (case mt_Limit_words => (constructor <;> k_is))
    (case F_Limit_words => (first | exact L2.fun_mk (by k_is) (by k_is) (by k_is) | (refine' L2.fun_mk ?_ ?_ ?_ <;> try k_is)))
    (case mt_Leave_words => (constructor <;> k_is))
    (case F_Leave_words => (first | exact L2.fun_mk (by k_is) (by k_is) (by k_is) | (refine' L2.fun_mk ?_ ?_ ?_ <;> try k_is)))
    (case mt_Soft_words => (constructor <;> k_is))
    (case F_Soft_words => (first | exact L2.fun_mk (by k_is) (by k_is) (by k_is) | (refine' L2.fun_mk ?_ ?_ ?_ <;> try k_is)))
    (case mt_Count_words => (constructor <;> k_is))
    (case F_Count_words => (first | exact L2.fun_mk (by k_is) (by k_is) (by k_is) | (refine' L2.fun_mk ?_ ?_ ?_ <;> try k_is)))
    (case mt_Lend_words => (constructor <;> k_is))
    (case F_Lend_words => (first | exact L2.fun_mk (by k_is) (by k_is) (by k_is) | (refine' L2.fun_mk ?_ ?_ ?_ <;> try k_is)))
    (case F_Row_str => (first | exact L2.fun_mk (by k_is) (by k_is) (by k_is) | (refine' L2.fun_mk ?_ ?_ ?_ <;> try k_is)))
    (case cr_Row_read => (constructor <;> k_is))
    (case cmt_Row_read => (first | exact Vs.cmet_mk (by k_is) (by k_is) (by k_is) | (refine' Vs.cmet_mk ?_ ?_ ?_ <;> try k_is)))
    (case F_Row_read => (first | exact L2.fun_mk (by k_is) (by k_is) (by k_is) | (refine' L2.fun_mk ?_ ?_ ?_ <;> try k_is)))
    (case a_fn_rows_in => k_is)
    (case F_rows_in => (first | exact L2.fun_mk (by k_is) (by k_is) (by k_is) | (refine' L2.fun_mk ?_ ?_ ?_ <;> try k_is)))
    (case cr_Stack_read => (constructor <;> k_is))
    (case cmt_Stack_read => (first | exact Vs.cmet_mk (by k_is) (by k_is) (by k_is) | (refine' Vs.cmet_mk ?_ ?_ ?_ <;> try k_is)))
    (case F_Stack_read => (first | exact L2.fun_mk (by k_is) (by k_is) (by k_is) | (refine' L2.fun_mk ?_ ?_ ?_ <;> try k_is)))
    (case a_fn_is_wish => k_is)
    (case F_is_wish => (first | exact L2.fun_mk (by k_is) (by k_is) (by k_is) | (refine' L2.fun_mk ?_ ?_ ?_ <;> try k_is)))
    (case a_fn_check_wish => k_is)
    (case F_check_wish => (first | exact L2.fun_mk (by k_is) (by k_is) (by k_is) | (refine' L2.fun_mk ?_ ?_ ?_ <;> try k_is)))
    (case a_fn_reached => k_is)
    (case F_reached => (first | exact L2.fun_mk (by k_is) (by k_is) (by k_is) | (refine' L2.fun_mk ?_ ?_ ?_ <;> try k_is)))
    (case a_fn_begun => k_is)
    (case F_begun => (first | exact L2.fun_mk (by k_is) (by k_is) (by k_is) | (refine' L2.fun_mk ?_ ?_ ?_ <;> try k_is)))
    (case mt_Call_make_try => (constructor <;> k_is))
    (case F_Call_make_try => (first | exact L2.fun_mk (by k_is) (by k_is) (by k_is) | (refine' L2.fun_mk ?_ ?_ ?_ <;> try k_is)))
    (case a_fn_may_store => k_is)
    (case F_may_store => (first | exact L2.fun_mk (by k_is) (by k_is) (by k_is) | (refine' L2.fun_mk ?_ ?_ ?_ <;> try k_is)))
    (case mt_Call_ask => (constructor <;> k_is))
    (case F_Call_ask => (first | exact L2.fun_mk (by k_is) (by k_is) (by k_is) | (refine' L2.fun_mk ?_ ?_ ?_ <;> try k_is)))
    (case mt_Call_ask_keeper => (constructor <;> k_is))
    (case F_Call_ask_keeper => (first | exact L2.fun_mk (by k_is) (by k_is) (by k_is) | (refine' L2.fun_mk ?_ ?_ ?_ <;> try k_is)))
    (case mt_Call_ask_repeatedly => (constructor <;> k_is))
    (case F_Call_ask_repeatedly => (first | exact L2.fun_mk (by k_is) (by k_is) (by k_is) | (refine' L2.fun_mk ?_ ?_ ?_ <;> try k_is)))
    (case mt_Call_ask_limited => (constructor <;> k_is))
    (case F_Call_ask_limited => (first | exact L2.fun_mk (by k_is) (by k_is) (by k_is) | (refine' L2.fun_mk ?_ ?_ ?_ <;> try k_is)))
    (case mt_Call_ask_softly => (constructor <;> k_is))
    (case F_Call_ask_softly => (first | exact L2.fun_mk (by k_is) (by k_is) (by k_is) | (refine' L2.fun_mk ?_ ?_ ?_ <;> try k_is)))
    (case F_Call_init => (first | exact L2.fun_mk (by k_is) (by k_is) (by k_is) | (refine' L2.fun_mk ?_ ?_ ?_ <;> try k_is)))
    (case a_fn_calls_of => k_is)
    (case F_calls_of => (first | exact L2.fun_mk (by k_is) (by k_is) (by k_is) | (refine' L2.fun_mk ?_ ?_ ?_ <;> try k_is)))
    (case a_fn_calls_from => k_is)
    (case F_calls_from => (first | exact L2.fun_mk (by k_is) (by k_is) (by k_is) | (refine' L2.fun_mk ?_ ?_ ?_ <;> try k_is)))
    (case a_fn_aged => k_is)
    (case F_aged => (first | exact L2.fun_mk (by k_is) (by k_is) (by k_is) | (refine' L2.fun_mk ?_ ?_ ?_ <;> try k_is)))
    (case a_fn_ticked => k_is)
    (case F_ticked => (first | exact L2.fun_mk (by k_is) (by k_is) (by k_is) | (refine' L2.fun_mk ?_ ?_ ?_ <;> try k_is)))
    (case a_fn_event_of => k_is)
    (case F_event_of => (first | exact L2.fun_mk (by k_is) (by k_is) (by k_is) | (refine' L2.fun_mk ?_ ?_ ?_ <;> try k_is)))
    (case a_fn_events_from => k_is)
    (case F_events_from => (first | exact L2.fun_mk (by k_is) (by k_is) (by k_is) | (refine' L2.fun_mk ?_ ?_ ?_ <;> try k_is)))
    (case a_fn_reached_standings => k_is)
    (case F_reached_standings => (first | exact L2.fun_mk (by k_is) (by k_is) (by k_is) | (refine' L2.fun_mk ?_ ?_ ?_ <;> try k_is)))
    (case F_breaks_calm => (first | exact L2.fun_mk (by k_is) (by k_is) (by k_is) | (refine' L2.fun_mk ?_ ?_ ?_ <;> try k_is)))
    (case F_breaks_fresh => (first | exact L2.fun_mk (by k_is) (by k_is) (by k_is) | (refine' L2.fun_mk ?_ ?_ ?_ <;> try k_is)))
    (case F_breaks_kept => (first | exact L2.fun_mk (by k_is) (by k_is) (by k_is) | (refine' L2.fun_mk ?_ ?_ ?_ <;> try k_is)))
    (case F_breaks_leave => (first | exact L2.fun_mk (by k_is) (by k_is) (by k_is) | (refine' L2.fun_mk ?_ ?_ ?_ <;> try k_is)))
    (case F_breaks_once => (first | exact L2.fun_mk (by k_is) (by k_is) (by k_is) | (refine' L2.fun_mk ?_ ?_ ?_ <;> try k_is)))
    (case F_breaks_spare => (first | exact L2.fun_mk (by k_is) (by k_is) (by k_is) | (refine' L2.fun_mk ?_ ?_ ?_ <;> try k_is)))
    (case F_breaks_tries => (first | exact L2.fun_mk (by k_is) (by k_is) (by k_is) | (refine' L2.fun_mk ?_ ?_ ?_ <;> try k_is)))
    (case a_fn_breaks => k_is)
    (case F_breaks => (first | exact L2.fun_mk (by k_is) (by k_is) (by k_is) | (refine' L2.fun_mk ?_ ?_ ?_ <;> try k_is)))
    (case a_fn_trail => k_is)
    (case F_trail => (first | exact L2.fun_mk (by k_is) (by k_is) (by k_is) | (refine' L2.fun_mk ?_ ?_ ?_ <;> try k_is)))
    (case a_fn_breach => k_is)
    (case F_breach => (first | exact L2.fun_mk (by k_is) (by k_is) (by k_is) | (refine' L2.fun_mk ?_ ?_ ?_ <;> try k_is)))
    (case a_fn_standings => k_is)
    (case F_standings => (first | exact L2.fun_mk (by k_is) (by k_is) (by k_is) | (refine' L2.fun_mk ?_ ?_ ?_ <;> try k_is)))
    (case a_fn_possible_calls => k_is)
    (case F_possible_calls => (first | exact L2.fun_mk (by k_is) (by k_is) (by k_is) | (refine' L2.fun_mk ?_ ?_ ?_ <;> try k_is)))
    (case a_fn_most_tries => k_is)
    (case F_most_tries => (first | exact L2.fun_mk (by k_is) (by k_is) (by k_is) | (refine' L2.fun_mk ?_ ?_ ?_ <;> try k_is)))
    (case a_fn_kept_of => k_is)
    (case F_kept_of => (first | exact L2.fun_mk (by k_is) (by k_is) (by k_is) | (refine' L2.fun_mk ?_ ?_ ?_ <;> try k_is)))
    (case a_fn_kept_wishes => k_is)
    (case F_kept_wishes => (first | exact L2.fun_mk (by k_is) (by k_is) (by k_is) | (refine' L2.fun_mk ?_ ?_ ?_ <;> try k_is)))
    (case a_fn_law => k_is)
    (case F_law => (first | exact L2.fun_mk (by k_is) (by k_is) (by k_is) | (refine' L2.fun_mk ?_ ?_ ?_ <;> try k_is)))
    (case ci_reached_standings => exact Vw.codeIs_mk (by k_is) (by rfl))
    (case tn_reached_standings => exact Vw.codeTab_mk (by k_is) (by rfl))
