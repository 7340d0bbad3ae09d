import PyProof.Rows.All
import Wide.All
import OpenK.AllK
import Wide.FinOn
import PyProof.EqAt
import PyProof.EqKinds
import PyProof.TupleCall
import KE.KExcIs
import HandS.ForMost
import HandS.ForExc
import HandS.ExcInit
import HandS.ExcField
import HandS.IsInst
import HandS.ClsMeth
import HandS.Wide
import HandS.SetFor
import HandS.Codes
import HandS.Style
import KE.GoesMore
import HandS.Walk
import HandS.NoneIn
import HandS.TupMul
import HandS.WideBits
import HandS.TupAny
import HandS.Conv
import HandS.EndBits
import HandS.Comp
import HandS.Set
import HandS.Strs
import HandS.SortInts
import HandS.DictTup
import HandS.ListItems
import HandS.SetKeys
import HandS.Dict
import HandS.Words
import PyProof.DictMoreH
import HandS.Lambda
import HandS.Nested
import HandS.TupLen
import HandS.AnyAll
import HandS.GenOver
import HandS.Text
import HandS.Iter
import HandS.FStr
import PyProof.Rows.SumAny
import PyProof.WalksMore
import PyProof.MinMaxWalk
import KE.KExcStr
import HandS.ExcValue
import HandS.MakeKw
import HandS.MakeKwOnly
import KE.DataCmp
import KE.GoesEnum
import KE.KNestM
import HandS.Defaults
import HandS.Head0
import HandS.Head1
import HandS.Head2
import HandS.HeadHook1
import HandS.HeadHook2
import HandS.HeadHook3
import HandS.HeadHook4
import HandS.EndTab
import HandS.HeadWalk
import PySem.Challenge.RW_timesrow_k21_settled
set_option Elab.async false
set_option linter.all false
set_option maxRecDepth 100000
set_option maxHeartbeats 4000000
/-! Own rules over the hand layer: a caught exception kept as a value, its class asked, its field read; the base's own initialiser reached through an own class; products and quotients by plain bounds. -/
namespace Tw
open PySem PySem.Spec PyProof.Rows L2

/-! ### an exception held as a value -/
def exv (a : Addr) (cls : Value) (d : Option Addr) : HO := .ext fun h => ∃ (oe : Obj) (vs : Array Value), h.get? a = some oe ∧ Zc cls d oe ∧ oe.data = .fields vs
theorem exv_ok {P : Program} {w : World} {H : Hp} {h : Heap} {a : Addr} {cls : Value} {d : Option Addr} {oe : Obj} {vs : Array Value} (he : h.get? a = some oe) (hz : Zc cls d oe) (hd : oe.data = .fields vs) : ObjOk P w H h a (exv a cls d) :=
  ⟨⟨oe, vs, he, hz, hd⟩, ⟨oe, he⟩, fun _ _ z k => by
    obtain ⟨o, v, e, q⟩ := z
    exact ⟨o, v, k _ e, q⟩⟩
theorem exv_at {P : Program} {w : World} {H : Hp} {h : Heap} {a : Addr} {cls : Value} {d : Option Addr} (hok : HOk P w H h) (he : H a = some (exv a cls d)) : ∃ (oe : Obj) (vs : Array Value), h.get? a = some oe ∧ Zc cls d oe ∧ oe.data = .fields vs := by
  have x : ObjOk P w H h a (.ext fun h => ∃ (oe : Obj) (vs : Array Value), h.get? a = some oe ∧ Zc cls d oe ∧ oe.data = .fields vs) := hok a _ he
  exact x.1
section
variable {X : Cx} {pins : List (Addr × Obj)} {σ : L2.St} {H : Hp} {s : Shared}
/-- an object of ours that was not tracked is tracked from here on -/
theorem track {a : Addr} {o : HO} (I : Inv X pins σ H s) (na : H a = none) (h0 : ∀ ob, X.s_0.heap.get? a = some ob → X.H_0 a = none → a ∉ X.ex → False) (hL : a ≠ X.env.locals)
    (hc : ∀ x c, X.env.cells.lookup x = some c → c ≠ a) (hp : ∀ p ∈ X.pn ++ pins, p.1 ≠ a) (new : ObjOk X.prog X.w (upd H a o) s.heap a o) : Inv X pins σ (upd H a o) s := by
  have ne : ∀ {b : Addr} {u : HO}, H b = some u → b ≠ a := fun {b u} e => ne_of_none e na
  refine ⟨I.ok, I.os, I.bare, ⟨I.base.keep, I.base.slot, fun b ob e n hx => ?_, I.base.there, fun b xs e => ?_, fun b ob u e => ?_, fun b ps e => ?_⟩, I.loc, I.cell, ?_, fun x c e => ?_, fun p q => ?_, fun b u e => ?_, I.len⟩
  · have nb : b ≠ a := fun z => h0 ob (z ▸ e) (z ▸ n) (z ▸ hx)
    rw [upd_ne nb]
    exact I.base.free b ob e n hx
  · have q := I.base.tups b xs e
    rw [upd_ne (ne q)]
    exact q
  · have q := I.base.frzs b ob u e
    rw [upd_ne (ne q)]
    exact q
  · obtain ⟨more, q⟩ := I.base.tbls b ps e
    exact ⟨more, by rw [upd_ne (ne q)]; exact q⟩
  · rw [upd_ne (Ne.symm hL)]
    exact I.free
  · rw [upd_ne (hc x c e)]
    exact I.freeC x c e
  · obtain ⟨e, n, l, f, d⟩ := I.pin p q
    exact ⟨e, by rw [upd_ne (hp p q)]; exact n, l, f, d⟩
  · by_cases hb : b = a
    · subst hb
      rw [upd_same] at e
      cases e
      exact new
    · rw [upd_ne hb] at e
      exact (I.hok b u e).stay (fun _ _ _ q => q) (fun c q => by rw [upd_ne (ne q)]; exact q) (fun c xs q => by rw [upd_ne (ne q)]; exact q)
/-- into an except suite and out of it: nothing more is pinned there than was before -/
theorem toSuite (I : Inv X pins σ H s) (a : Addr) : Inv (X.suite a (X.pn ++ pins)) [] σ H s :=
  { ok := I.ok.suite _ _, os := I.os, bare := I.bare, base := I.base, loc := I.loc, cell := I.cell, free := I.free, freeC := I.freeC, hok := I.hok, len := I.len
    pin := fun p hp => I.pin p ((List.append_nil (X.pn ++ pins)) ▸ hp) }
theorem ofSuite {a : Addr} {more : List (Addr × Obj)} (I : Inv (X.suite a (X.pn ++ pins)) more σ H s) (ok : X.Ok) : Inv X pins σ H s :=
  { ok := ok, os := I.os, bare := I.bare, base := I.base, loc := I.loc, cell := I.cell, free := I.free, freeC := I.freeC, hok := I.hok, len := I.len
    pin := fun p hp => I.pin p (List.mem_append_left more hp) }
/-- no frame is a record -/
theorem rec_noframe {h B : Heap} {l : List Env} {a : Addr} {o : Obj} {vs : Array Value} (ff : h.FunFrames B l) (e : h.get? a = some o) (dd : o.data = .fields vs) : a ∉ frs l := fun hm => by
  obtain ⟨_, o2, e2, nf⟩ := ff.mem hm
  have z := Option.some.inj (e.symm.trans e2)
  subst z
  exact nf vs dd
/-- an address that the ground does not know is younger than the def's entry, and is not pinned -/
theorem young {B : Heap} {a : Addr} (J : Inv X pins σ H s) (gr : ∀ b o, s.heap.get? b = some o → b ∉ frs X.stack → B.get? b = some o) (hB : B.get? a = none) (nS : a ∉ frs X.stack) (nF : a ∉ X.fs) :
    (∀ ob, X.s_0.heap.get? a = some ob → X.H_0 a = none → a ∉ X.ex → False) ∧ ∀ p ∈ X.pn ++ pins, p.1 ≠ a := by
  constructor
  · intro ob e n hx
    have z := gr a ob (J.base.keep a ob e n nF hx) nS
    rw [hB] at z
    cases z
  · intro p hp z
    obtain ⟨e, _, l, f, _⟩ := J.pin p hp
    have y := gr p.1 p.2 e (fun hm => (List.mem_cons.mp (J.stkSub p.1 hm)).elim l f)
    rw [z, hB] at y
    cases y
end
/-- what the clause wishes of an exception of the body: the clause takes it; it is held, and stays held behind the suite -/
def wKeep (K : PySem.W.Frag) (c : Value) (i : Nat) (ts : TS) (D : Ends) : WX := fun cls d σ H =>
  PySem.W.exmOne K cls c = some true ∧ ∀ a, H a = none → ts { nx := fun σ1 H1 => D.nx (σ1.set i none) H1, rt := D.rt, bk := fun σ1 H1 => D.bk (σ1.set i none) H1, ct := fun σ1 H1 => D.ct (σ1.set i none) H1 } (σ.set i (some (.ref a))) (upd H a (exv a cls d))
section
variable {X : Cx} {x n : Str} {c : Value} {i : Nat} {body suite : List Stmt} {b0 : Stmt} {np pos pos' : Pos} {tb : WX → TS} {ts : TS}
/-- the clause's name is looked up while the exception is handled -/
theorem clause_name {pins : List (Addr × Obj)} {σ : L2.St} {H : Hp} {s : Shared} {a : Addr} {Q : Value → Shared → Prop} {E : Value → Shared → Prop} (hc : Names X x c) (I : Inv X pins σ H s) (q : Q c s) :
    wpAny (model X.prog X.w) (X.A.mark (some (.ref a))) (eval (.Name x np) X.env) Q E s := by
  have J := toSuite I a
  obtain ⟨g, nd, m | ⟨m, v, nn⟩⟩ := hc
  · exact ld_glob (X := X.suite a (X.pn ++ pins)) J g m q nd
  · exact ld_blt (X := X.suite a (X.pn ++ pins)) J g m v q nn nd
/-- behind the suite: the name goes, and the way goes on as it would -/
theorem suite_done {pins : List (Addr × Obj)} {a : Addr} {D : Ends} {fl : Flow} {s : Shared} (ok : X.Ok) (hN : X.N.Nodup) (hi : X.N[i]? = some n) (hln : X.env.kindOf n = some .local)
    (h : SP (X.suite a (X.pn ++ pins)) [] { nx := fun σ1 H1 => D.nx (σ1.set i none) H1, rt := D.rt, bk := fun σ1 H1 => D.bk (σ1.set i none) H1, ct := fun σ1 H1 => D.ct (σ1.set i none) H1 } fl s) :
    wpAny (model X.prog X.w) X.A (do bindName X.env n .none; unbindBehindTheSuite X.env n pos') (fun _ s7 => SP X pins D fl s7) X.xe s := by
  cases fl with
  | next => obtain ⟨_, _, S, q⟩ := h; exact gone_ok (ofSuite S ok) hN hi hln fun _ J => ⟨_, _, J, q⟩
  | brk => obtain ⟨_, _, S, q⟩ := h; exact gone_ok (ofSuite S ok) hN hi hln fun _ J => ⟨_, _, J, q⟩
  | cont => obtain ⟨_, _, S, q⟩ := h; exact gone_ok (ofSuite S ok) hN hi hln fun _ J => ⟨_, _, J, q⟩
  | ret u => obtain ⟨_, _, _, S, r, q⟩ := h; exact gone_ok (ofSuite S ok) hN hi hln fun _ J => ⟨_, _, _, J, r, q⟩
/-- an exception in the air of the try's body, met by the clause -/
theorem met {pins : List (Addr × Obj)} {xe : Value → Shared → Prop} {D : Ends} {u : Value} {s1 : Shared} (ok : X.Ok) (hs : X.stack = X.env :: X.outer) (hf : X.env.frame = some X.env.locals) (hN : X.N.Nodup) (hi : X.N[i]? = some n) (hln : X.env.kindOf n = some .local) (hc : Names X x c)
    (hsu : ∀ (a : Addr) (pn : List (Addr × Obj)), PSs (X.suite a pn) (b0 :: suite) ts) (air : XE (X.tr (X.pn ++ pins) xe) (wKeep X.K c i ts D) u s1) :
    wpAny (model X.prog X.w) X.A (noteFrame u X.env) (fun _ s2 => wpAny (model X.prog X.w) X.A (setFlight u none) (fun _ s3 =>
      wpAny (model X.prog X.w) X.A (handleBy u X.env [.ExceptHandler (some (.Name x np)) (some n) (b0 :: suite) pos']) (SP X pins D) X.xe s3) X.xe s2) X.xe s1 := by
  obtain ⟨a, B, sI, _, σ1, H1, cls, d, rfl, J0, gr, up, sky, na, os, ag, xm, yes⟩ := air
  have J : Inv X pins σ1 H1 sI := J0.ofTry ok
  have top : X.A.frames = some (X.env :: X.outer) := ok.frames.trans (congrArg some hs)
  have sky1 : Sky B (X.env :: X.outer) a (Zc cls d) X.env.locals s1.heap := hs ▸ sky
  refine Sky.land Zc.steady top hf sky1 fun h3 fly3 up3 => ?_
  have J3 : Inv X pins σ1 H1 { s1 with heap := h3 } := J.landed gr fly3.1 (up.trans up3) os ag
  obtain ⟨oe3, vs3, at3, z3, d3⟩ := fly3.there
  have nfr : a ∉ frs (X.env :: X.outer) := rec_noframe fly3.2.2.1 at3 d3
  have nS : a ∉ frs X.stack := hs ▸ nfr
  have nL : a ≠ X.env.locals := fun z => nfr (List.mem_filterMap.mpr ⟨X.env, List.mem_cons_self, by rw [hf, z]⟩)
  have nF : a ∉ X.fs := fun hm => let ⟨e, he, q⟩ := List.mem_filterMap.mp hm; nfr (List.mem_filterMap.mpr ⟨e, List.mem_cons_of_mem _ he, q⟩)
  have TY : PySem.W.Looks (model X.prog X.w) h3 (typeOf (.ref a)) cls := fun _ _ _ _ k q => wpAny_typeOf_ref (k _ _ at3) (z3.1.symm ▸ q)
  refine wpAny_handleBy_cons (codeAny_handlers_test (clause_name hc J3 ((PySem.W.exm_one (M := model X.prog X.w) J3.kIn TY xm).here ?_))) (fun q => by cases q)
  refine codeAny_handlers_suite_as (HandSPX.lands_againZ fly3 fun h4 fly4 up4 => ?_)
  have J4 : Inv X pins σ1 H1 { s1 with heap := h4 } := J.landed gr fly4.1 ((up.trans up3).trans up4) os ag
  obtain ⟨oe, vs, at4, z4, d4⟩ := fly4.there
  obtain ⟨y1, y2⟩ := young J gr fly4.2.1 nS nF
  have ncell : ∀ y cc, X.env.cells.lookup y = some cc → cc ≠ a := fun y cc e z => by
    obtain ⟨_, oc, hoc, hdc⟩ := J4.cell y cc e
    subst z
    have w1 : oe = oc := Option.some.inj (at4.symm.trans hoc)
    rw [← w1, d4] at hdc
    cases hdc
  have J5 := toSuite (track (o := exv a cls d) J4 na y1 nL ncell y2 (exv_ok at4 z4 d4)) a
  refine store_ok (X := X.suite a (X.pn ++ pins)) (v := .ref a) J5 hN hi (.inl hln) rfl (fun s5 S5 => ?_) (.inr hln)
  exact wpAny_mono ((hsu a (X.pn ++ pins)).run [] s5 _ _ _ S5 (yes a na)) (fun fl s6 h6 => suite_done ok hN hi hln h6) (fun _ _ z => z.elim)
theorem ps_try_keep (hs : X.stack = X.env :: X.outer) (hf : X.env.frame = some X.env.locals) (hN : X.N.Nodup) (hi : X.N[i]? = some n) (hln : X.env.kindOf n = some .local) (hc : Names X x c)
    (hb : ∀ (W : WX) (pn : List (Addr × Obj)) (xe : Value → Shared → Prop), Takes (X.tr pn xe) W → PassesOwn (model X.prog X.w) X.A X.env xe → PSs (X.tr pn xe) body (tb W))
    (hsu : ∀ (a : Addr) (pn : List (Addr × Obj)), PSs (X.suite a pn) (b0 :: suite) ts) :
    PS X (.Try body [.ExceptHandler (some (.Name x np)) (some n) (b0 :: suite) pos'] [] [] pos) (fun D σ H => tb (wKeep X.K c i ts D) D σ H) := by
  refine ⟨fun pins s σ H D I h => wpAny_Try_except ?_⟩
  have ok := I.ok
  refine wpAny_mono ((hb _ (X.pn ++ pins) _ (fun u s1 air => met ok hs hf hN hi hln hc hsu air) PassesOwn.looking).run [] s σ H D (I.toTry _) h) (fun fl s1 r => ?_) (fun _ _ q => q)
  cases fl with
  | next => obtain ⟨_, _, J, q⟩ := r; exact wpAny_execs_nil ⟨_, _, J.ofTry ok, q⟩
  | brk => obtain ⟨_, _, J, q⟩ := r; exact ⟨_, _, J.ofTry ok, q⟩
  | cont => obtain ⟨_, _, J, q⟩ := r; exact ⟨_, _, J.ofTry ok, q⟩
  | ret u => obtain ⟨_, _, _, J, v, q⟩ := r; exact ⟨_, _, _, J.ofTry ok, v, q⟩
end

/-! ### isinstance of a held exception -/
/-- what is asked of an own exception class -/
structure XcC (K : PySem.W.Frag) (D : Addr) : Prop where
  hc : PySem.W.isClsIn K D = true
  hg : PySem.W.findIn K (.ref D) "__getattribute__" = some (some (.builtin "BaseException.__getattribute__"))
  hk : PySem.W.findIn K (.ref D) "__getattr__" = some none
  hs : PySem.W.subIn K (.ref D) (.type "BaseException") = some true
  hd : PySem.W.hasDictIn K D = true
  ha : PySem.W.findIn K (.ref D) "__class__" = some (some (.builtin "object.__class__"))
  hn : PySem.W.specialIn K (.builtin "object.__class__") "__get__" = some (some (.builtin "getset_descriptor.__get__"))
  ht : PySem.W.takesIn K (.builtin "object.__class__") = some true
  hm : PySem.W.mroIn K D (.type "object") = some true
section
variable {X : Cx} {pins : List (Addr × Obj)} {σ : L2.St} {H : Hp} {s : Shared}
/-- a held exception, its dict as the heap tells it -/
def HasD (H : Hp) (d : Option Addr) : Prop := ∀ dx, d = some dx → ∃ fs, H dx = some (.xd fs)
theorem inst_of {a D : Addr} {d : Option Addr} (I : Inv X pins σ H s) (e : H a = some (exv a (.ref D) d)) (hd : HasD H d) : ∃ oe od, PySem.W.InstAt s.heap a oe D od := by
  obtain ⟨oe, vs, he, hz, hv⟩ := exv_at I.hok e
  have nc : PySem.W.notCls oe = true := by unfold PySem.W.notCls; rw [hv] <;> rfl
  cases d with
  | none => exact ⟨oe, none, he, hz.1, nc, by rw [hz.2]; trivial⟩
  | some dx =>
    obtain ⟨fs, ed⟩ := hd dx rfl
    have hx : ObjOk X.prog X.w H s.heap dx (.xd fs) := I.hok dx _ ed
    obtain ⟨mA, hns, hr⟩ := hx
    obtain ⟨od, ho, hl⟩ := lookIn_ns hns
    exact ⟨oe, some od, he, hz.1, nc, by rw [hz.2]; exact ho⟩
end
/-- isinstance(e, c), e a held exception of the class at D -/
def rIsX (K : PySem.W.Frag) : List V → Hp → VK → Prop := fun xs H Q => ∃ (a D : Addr) (d : Option Addr) (c : V) (u : Value) (b : Bool), xs = [.ref a, c] ∧ ClsV c u ∧ H a = some (exv a (.ref D) d) ∧ HasD H d ∧ XcC K D ∧ PySem.W.kitOne K (.ref D) u = some b ∧ Q (.bl b) H
theorem call_isX {X : Cx} : CallR X (.builtin "isinstance") (rIsX X.K) := by
  intro pins s σ H xs us Q I r h
  obtain ⟨a, D, d, c, u, b, rfl, k, ea, hd, T, e, q⟩ := h
  obtain ⟨u1, u2, rfl, r1, r2⟩ := vals2 r
  cases (show u1 = Value.ref a from r1)
  have e2 := k.eq r2
  subst e2
  obtain ⟨oe, od, J⟩ := inst_of I ea hd
  exact PySem.W.kia_one (PySem.W.kitx_exc T.hc T.hg T.hk T.hs T.ha T.hn T.ht T.hm) I.kIn J e (fun z => nomatch z) fun tk => ⟨.bl b, H, I.tok tk, rfl, q⟩
/-- both: a held exception, or anything that the layer knows -/
def rIsA (K : PySem.W.Frag) : List V → Hp → VK → Prop := fun xs H Q => rIsX K xs H Q ∨ rIsi K xs H Q
theorem call_isA {X : Cx} : CallR X (.builtin "isinstance") (rIsA X.K) := by
  intro pins s σ H xs us Q I r h
  rcases h with h | h
  · exact call_isX pins s σ H xs us Q I r h
  · exact call_isi pins s σ H xs us Q I r h

/-! ### a field of a held exception -/
def tXv (K : PySem.W.Frag) (f : Str) (te : TE) : TE := fun σ H Q => te σ H fun x H1 => ∃ (a C dd : Addr) (fs : List (Str × V)) (v : V), x = .ref a ∧ H1 a = some (exv a (.ref C) (some dd)) ∧ XcC K C ∧ PySem.W.findIn K (.ref C) f = some none ∧ H1 dd = some (.xd fs) ∧ fs.lookup f = some v ∧ Q v H1
theorem pe_xv {X : Cx} {e : Expr} {te : TE} {pos : Pos} {n : Str} (he : PE X e te) (hb : attributeBase e n X.env (eval e X.env) = eval e X.env := by rfl) : PE X (.Attribute e n pos) (tXv X.K n te) := by
  refine ⟨fun pins s σ H Q I h => ?_⟩
  refine attr_of hb (thn (he.run pins s σ H _ I h) fun u s1 hh => ?_)
  obtain ⟨x, H1, I1, rx, a, C, dd, fs, v, ex, ea, T, hno, ed, l, q⟩ := hh
  subst ex
  obtain rfl : u = Value.ref a := rx
  obtain ⟨oe, vs, ha, hz, hd⟩ := exv_at I1.hok ea
  have hx : ObjOk X.prog X.w H1 s1.heap dd (.xd fs) := I1.hok dd _ ed
  obtain ⟨mA, hns, hr⟩ := hx
  obtain ⟨od, ho, hl⟩ := lookIn_ns hns
  obtain ⟨u, hu, ru⟩ := RelO.some_of (v := v) (o := mA n) (by rw [← l]; exact hr n)
  have J : PySem.W.InstAt s1.heap a oe C (some od) := ⟨ha, hz.1, by unfold PySem.W.notCls; rw [hd] <;> rfl, by rw [hz.2]; exact ho⟩
  exact HandSPX.exc_get I1.kIn J T.hg T.hk T.hs (PySem.W.findObj_own T.hd hno rfl (by rw [hl, hu])) (handed_of ru) ⟨v, H1, I1.tok _, ru, q⟩

/-! ### B.__init__(self, ..), B an own class over ValueError -/
theorem pe_ownInit {X : Cx} {B : Addr} {mc : Value} {x : Str} {e : Expr} {es : List Expr} {ta : TA} {p1 p2 pos : Pos} {pl : Sem Bool} (hg : Gl X x) (hm : X.mg x = some (.ref B)) (r : ClX.CRead X.K B mc)
    (k : PySem.W.findCls X.K (.ref B) mc "__init__" = some (.val (.builtin "ValueError.__init__"))) (ha : PA X (e :: es) ta)
    (hc : eval (.Call (.Attribute (.Name x p1) "__init__" p2) (e :: es) [] pos) X.env = (do
      let ov ← eval (.Name x p1) X.env
      standAt p2.atName
      let (f, first) ← holding [ov] (getMethod ov "__init__" pl)
      callWith pos f first (backTo pos (starEach (e :: es) X.env)) (backToKw pos (keywordEach [] X.env))) := by rfl)
    (he : starEach (e :: es) X.env = (false, eval e X.env) :: starEach es X.env := by rfl) (hpl : (backTo pos (starEach es X.env)).any (·.1) = false := by rfl) (hdb : (x == ("__debug__" : Str)) = false := by decide) :
    PE X (.Call (.Attribute (.Name x p1) "__init__" p2) (e :: es) [] pos) (tVeI X.K ta) := by
  refine ⟨fun pins s σ H Q I h => ?_⟩
  refine PySem.W.methodCall_KW (ld_glob I hg hm ?_ hdb) hc
  refine PySem.W.method_cls I.kIn r.ga (PySem.W.cls_value I.kIn r.rd k rfl ?_)
  show wpAny _ _ (callWith pos (Value.builtin "ValueError.__init__") [] (backTo pos (starEach (e :: es) X.env)) []) _ _ _
  refine PyProof.Rows.callWith_method1 (thn (ha.run pos pins _ σ H _ (I.tok _) h) fun us s1 ⟨vs, H1, I1, r1, a, C, ws, ev, hl, T, ea, q⟩ => ?_) he hpl
  subst ev
  cases r1 with
  | @cons _ u0 _ ur ra rw' =>
    obtain rfl : u0 = Value.ref a := ra
    have hlen : ur.length ≤ sizeLine := by
      rw [← Paired.length rw', sizeLine_eq]
      omega
    exact oinit_ok T I1 ea hlen fun s' J => ⟨.non, H1, J, rfl, q⟩

/-! ### products and quotients by plain bounds -/
def Big (i : Int) : Prop := -1000000000000000000000000000000000000000000 < i ∧ i < 1000000000000000000000000000000000000000000
theorem Big.abs {i : Int} (h : Big i) : i.natAbs < 2 ^ 140 := by
  obtain ⟨a, b⟩ := h
  have : (2 : Nat) ^ 140 = 1393796574908163946345982392040522594123776 := by decide
  rw [this]
  omega
def CMulB (i j : Int) : Prop := Big i ∧ Big j
def CDivB (_ j : Int) : Prop := 0 < j ∧ j < 1000000000000000000000000000000000000000000
theorem op_mulB {X : Cx} : OpR X (binaryOp .Mult) (rI CMulB fun i j => .int (i * j)) := by
  intro pins s σ H x y u v Q I r1 r2 h
  obtain ⟨i, j, e1, e2, hc, q⟩ := h
  exact op_mulW pins s σ H x y u v Q I r1 r2 ⟨i, j, e1, e2, wide_mul hc.1.abs hc.2.abs (by decide) (by decide) (by decide), q⟩
theorem op_fdivB {X : Cx} : OpR X (binaryOp .FloorDiv) (rI CDivB fun i j => .int (i / j)) := by
  intro pins s σ H x y u v Q I r1 r2 h
  obtain ⟨i, j, e1, e2, hc, q⟩ := h
  have hb : Big j := ⟨by have := hc.1; omega, hc.2⟩
  exact op_fdivW pins s σ H x y u v Q I r1 r2 ⟨i, j, e1, e2, wide_div hc.1 hb.abs (by decide) (by decide), q⟩
end Tw

/-! Short words: a def of the top, its promise, its call; readings. -/
namespace Tw
open PySem PySem.Spec PyProof.Rows L2

/-- a def of the text as the top has left it -/
def Top (K : PySem.W.Frag) (mg : Str → Option Value) (x : Str) (st : Stmt) (ps : List Str) : Prop :=
  ∃ (f : Addr) (fd : FuncData), Fun K x x st f fd ∧ mg x = some (.ref f) ∧ Binds K fd ps []
/-- a def that keeps its promise, ready to be called -/
def Lk (K : PySem.W.Frag) (f : Addr) (fd : FuncData) : Prop := ∃ (oc : Value) (od : Option Addr) (osl : Array (Option Value)), K.lookup f = some ⟨oc, od, .func fd, osl⟩
theorem Lk.eq {K : PySem.W.Frag} {f : Addr} {fd fe : FuncData} (a : Lk K f fd) (b : Lk K f fe) : fd = fe := by
  obtain ⟨oc, od, osl, e⟩ := a
  obtain ⟨oc', od', osl', e'⟩ := b
  rw [e] at e'
  cases e'
  rfl
theorem lk_of {K : PySem.W.Frag} {x q : Str} {st : Stmt} {f : Addr} {fd : FuncData} (F : Fun K x q st f fd) : Lk K f fd := by
  obtain ⟨oc, od, kV, doc, pm, an, cdv, ct, osl, _, lk, _⟩ := F.ex
  exact ⟨oc, od, osl, lk⟩
def Has (P : Program) (w : World) (K : PySem.W.Frag) (mg : Str → Option Value) (base : Heap) (CX : CXT) (k : Nat) (x : Str) (ps : List Str) (sp : Sp) : Prop :=
  ∃ (f : Addr) (fd : FuncData), FnOk P w K mg base CX k f fd ps sp ∧ mg x = some (.ref f) ∧ PySem.W.keepIn K (.ref f) = true ∧ Binds K fd ps [] ∧ Lk K f fd
theorem Has.mono {P : Program} {w : World} {K : PySem.W.Frag} {mg : Str → Option Value} {base : Heap} {CX : CXT} {j k : Nat} {x : Str} {ps : List Str} {sp : Sp} (h : Has P w K mg base CX j x ps sp) (l : j ≤ k) : Has P w K mg base CX k x ps sp := by
  obtain ⟨f, fd, F, g, kp, b, lk⟩ := h
  exact ⟨f, fd, F.mono l, g, kp, b, lk⟩
/-! promises by the number of arguments -/
def sp1 (p : V → Hp → VK → XK → Prop) : Sp := fun vs H Q E => ∃ a, vs = [a] ∧ p a H Q E
def sp2 (p : V → V → Hp → VK → XK → Prop) : Sp := fun vs H Q E => ∃ a b, vs = [a, b] ∧ p a b H Q E
def sp3 (p : V → V → V → Hp → VK → XK → Prop) : Sp := fun vs H Q E => ∃ a b c, vs = [a, b, c] ∧ p a b c H Q E
def sp4 (p : V → V → V → V → Hp → VK → XK → Prop) : Sp := fun vs H Q E => ∃ a b c d, vs = [a, b, c, d] ∧ p a b c d H Q E
section
variable {P : Program} {w : World} {K : PySem.W.Frag} {mg : Str → Option Value} {base : Heap} {x : Str} {st : Stmt} {N : List Str} {k : Nat}
theorem Top.ok {ps : List Str} {sp : Sp} (D : Top K mg x st ps) (S : FnScope N ps (defScope st)) (len : ∀ vs H Q E, sp vs H Q E → vs.length = ps.length)
    (hbody : ∀ (f : Addr) (cdv : Value) (A : Around) (outer : List Env) (s : Shared) (H : Hp) (vs : List V) (Q : VK) (E : XK), Room k (A.deeper (envOfC x (defScope st) s.heap.objs.size f cdv)) → sp vs H Q E →
      ∃ t, PSs (cxOf CX0 P w K mg base N x (defScope st) f cdv A outer s H E).nox (defBody st) t ∧ t { nx := fun _ H' => Q .non H', rt := Q } (start N vs) H) : Has P w K mg base CX0 (k + 1) x ps sp := by
  obtain ⟨f, fd, F, g, b⟩ := D
  exact ⟨f, fd, F.ok S len (fun cdv A outer s H vs Q E hr h => hbody f cdv A outer s H vs Q E hr h), g, F.kp, b, lk_of F⟩
theorem Top.okX {ps : List Str} {sp : Sp} (D : Top K mg x st ps) (S : FnScope N ps (defScope st)) (len : ∀ vs H Q E, sp vs H Q E → vs.length = ps.length)
    (hbody : ∀ (f : Addr) (cdv : Value) (A : Around) (outer : List Env) (s : Shared) (H : Hp) (vs : List V) (Q : VK) (E : XK), Room k (A.deeper (envOfC x (defScope st) s.heap.objs.size f cdv)) → sp vs H Q E →
      ∃ t, PSs (cxOf (L2.CX P w) P w K mg base N x (defScope st) f cdv A outer s H E) (defBody st) t ∧ t { nx := fun _ H' => Q .non H', rt := Q } (start N vs) H) : Has P w K mg base (L2.CX P w) (k + 1) x ps sp := by
  obtain ⟨f, fd, F, g, b⟩ := D
  exact ⟨f, fd, F.okX S len (fun cdv A outer s H vs Q E hr h => hbody f cdv A outer s H vs Q E hr h), g, F.kp, b, lk_of F⟩
theorem Top.ok1 {a : Str} {p : V → Hp → VK → XK → Prop} (D : Top K mg x st [a]) (S : FnScope N [a] (defScope st))
    (hbody : ∀ (f : Addr) (cdv : Value) (A : Around) (outer : List Env) (s : Shared) (H : Hp) (v1 : V) (Q : VK) (E : XK), Room k (A.deeper (envOfC x (defScope st) s.heap.objs.size f cdv)) → p v1 H Q E →
      ∃ t, PSs (cxOf CX0 P w K mg base N x (defScope st) f cdv A outer s H E).nox (defBody st) t ∧ t { nx := fun _ H' => Q .non H', rt := Q } (start N [v1]) H) : Has P w K mg base CX0 (k + 1) x [a] (sp1 p) :=
  D.ok S (fun vs H Q E h => by obtain ⟨_, rfl, _⟩ := h; rfl) (fun f cdv A outer s H vs Q E hr h => by obtain ⟨v1, rfl, h⟩ := h; exact hbody f cdv A outer s H v1 Q E hr h)
theorem Top.ok2 {a b : Str} {p : V → V → Hp → VK → XK → Prop} (D : Top K mg x st [a, b]) (S : FnScope N [a, b] (defScope st))
    (hbody : ∀ (f : Addr) (cdv : Value) (A : Around) (outer : List Env) (s : Shared) (H : Hp) (v1 v2 : V) (Q : VK) (E : XK), Room k (A.deeper (envOfC x (defScope st) s.heap.objs.size f cdv)) → p v1 v2 H Q E →
      ∃ t, PSs (cxOf CX0 P w K mg base N x (defScope st) f cdv A outer s H E).nox (defBody st) t ∧ t { nx := fun _ H' => Q .non H', rt := Q } (start N [v1, v2]) H) : Has P w K mg base CX0 (k + 1) x [a, b] (sp2 p) :=
  D.ok S (fun vs H Q E h => by obtain ⟨_, _, rfl, _⟩ := h; rfl) (fun f cdv A outer s H vs Q E hr h => by obtain ⟨v1, v2, rfl, h⟩ := h; exact hbody f cdv A outer s H v1 v2 Q E hr h)
theorem Top.ok3 {a b c : Str} {p : V → V → V → Hp → VK → XK → Prop} (D : Top K mg x st [a, b, c]) (S : FnScope N [a, b, c] (defScope st))
    (hbody : ∀ (f : Addr) (cdv : Value) (A : Around) (outer : List Env) (s : Shared) (H : Hp) (v1 v2 v3 : V) (Q : VK) (E : XK), Room k (A.deeper (envOfC x (defScope st) s.heap.objs.size f cdv)) → p v1 v2 v3 H Q E →
      ∃ t, PSs (cxOf CX0 P w K mg base N x (defScope st) f cdv A outer s H E).nox (defBody st) t ∧ t { nx := fun _ H' => Q .non H', rt := Q } (start N [v1, v2, v3]) H) : Has P w K mg base CX0 (k + 1) x [a, b, c] (sp3 p) :=
  D.ok S (fun vs H Q E h => by obtain ⟨_, _, _, rfl, _⟩ := h; rfl) (fun f cdv A outer s H vs Q E hr h => by obtain ⟨v1, v2, v3, rfl, h⟩ := h; exact hbody f cdv A outer s H v1 v2 v3 Q E hr h)
theorem Top.ok1X {a : Str} {p : V → Hp → VK → XK → Prop} (D : Top K mg x st [a]) (S : FnScope N [a] (defScope st))
    (hbody : ∀ (f : Addr) (cdv : Value) (A : Around) (outer : List Env) (s : Shared) (H : Hp) (v1 : V) (Q : VK) (E : XK), Room k (A.deeper (envOfC x (defScope st) s.heap.objs.size f cdv)) → p v1 H Q E →
      ∃ t, PSs (cxOf (L2.CX P w) P w K mg base N x (defScope st) f cdv A outer s H E) (defBody st) t ∧ t { nx := fun _ H' => Q .non H', rt := Q } (start N [v1]) H) : Has P w K mg base (L2.CX P w) (k + 1) x [a] (sp1 p) :=
  D.okX S (fun vs H Q E h => by obtain ⟨_, rfl, _⟩ := h; rfl) (fun f cdv A outer s H vs Q E hr h => by obtain ⟨v1, rfl, h⟩ := h; exact hbody f cdv A outer s H v1 Q E hr h)
theorem Top.ok2X {a b : Str} {p : V → V → Hp → VK → XK → Prop} (D : Top K mg x st [a, b]) (S : FnScope N [a, b] (defScope st))
    (hbody : ∀ (f : Addr) (cdv : Value) (A : Around) (outer : List Env) (s : Shared) (H : Hp) (v1 v2 : V) (Q : VK) (E : XK), Room k (A.deeper (envOfC x (defScope st) s.heap.objs.size f cdv)) → p v1 v2 H Q E →
      ∃ t, PSs (cxOf (L2.CX P w) P w K mg base N x (defScope st) f cdv A outer s H E) (defBody st) t ∧ t { nx := fun _ H' => Q .non H', rt := Q } (start N [v1, v2]) H) : Has P w K mg base (L2.CX P w) (k + 1) x [a, b] (sp2 p) :=
  D.okX S (fun vs H Q E h => by obtain ⟨_, _, rfl, _⟩ := h; rfl) (fun f cdv A outer s H vs Q E hr h => by obtain ⟨v1, v2, rfl, h⟩ := h; exact hbody f cdv A outer s H v1 v2 Q E hr h)
theorem Top.ok3X {a b c : Str} {p : V → V → V → Hp → VK → XK → Prop} (D : Top K mg x st [a, b, c]) (S : FnScope N [a, b, c] (defScope st))
    (hbody : ∀ (f : Addr) (cdv : Value) (A : Around) (outer : List Env) (s : Shared) (H : Hp) (v1 v2 v3 : V) (Q : VK) (E : XK), Room k (A.deeper (envOfC x (defScope st) s.heap.objs.size f cdv)) → p v1 v2 v3 H Q E →
      ∃ t, PSs (cxOf (L2.CX P w) P w K mg base N x (defScope st) f cdv A outer s H E) (defBody st) t ∧ t { nx := fun _ H' => Q .non H', rt := Q } (start N [v1, v2, v3]) H) : Has P w K mg base (L2.CX P w) (k + 1) x [a, b, c] (sp3 p) :=
  D.okX S (fun vs H Q E h => by obtain ⟨_, _, _, rfl, _⟩ := h; rfl) (fun f cdv A outer s H vs Q E hr h => by obtain ⟨v1, v2, v3, rfl, h⟩ := h; exact hbody f cdv A outer s H v1 v2 v3 Q E hr h)
end
section
variable {X : Cx} {CX : CXT} {k : Nat} {ps : List Str} {sp : Sp} {E : XK} {x : Str} {p pos : Pos} {e : Expr} {es : List Expr} {t : TA}
/-- f(e, ..): what may be raised is taken by E -/
theorem pe_own (h : Has X.prog X.w X.K X.mg X.base CX k x ps sp) (hr : Room k X.A) (hx : Passes CX X E) (ha : PA X (e :: es) t) (hg : Gl X x := by rfl)
    (hdb : (x == ("__debug__" : Str)) = false := by decide) (he : starEach (e :: es) X.env = (false, eval e X.env) :: starEach es X.env := by rfl) (hpl : (backTo pos (starEach es X.env)).any (·.1) = false := by rfl) :
    PE X (.Call (.Name x p) (e :: es) [] pos) (tCall sp [] E t) := by
  obtain ⟨f, fd, F, g, kp, b, _⟩ := h
  exact pe_call F hr hg g kp b .nil hx ha hdb he hpl
theorem pe_ownS {E : L2.St → XK} (h : Has X.prog X.w X.K X.mg X.base CX k x ps sp) (hr : Room k X.A) (hx : ∀ σ, PassesAt CX X σ (E σ)) (ha : PA X (e :: es) t) (hg : Gl X x := by rfl)
    (hdb : (x == ("__debug__" : Str)) = false := by decide) (he : starEach (e :: es) X.env = (false, eval e X.env) :: starEach es X.env := by rfl) (hpl : (backTo pos (starEach es X.env)).any (·.1) = false := by rfl) :
    PE X (.Call (.Name x p) (e :: es) [] pos) (tCallS sp E t) := by
  obtain ⟨f, fd, F, g, kp, b, _⟩ := h
  exact pe_callS F hr hg g kp b hx ha hdb he hpl
end
/-! ### tests -/
theorem ifD {p A B : Prop} [Decidable p] (h1 : p → A) (h2 : ¬ p → B) : if decide p = true then A else B := by
  by_cases h : p
  · rw [if_pos (decide_eq_true h)]; exact h1 h
  · rw [if_neg (by simp [h])]; exact h2 h
theorem ifN {p A B : Prop} [Decidable p] (h1 : ¬ p → A) (h2 : p → B) : if (!decide p) = true then A else B := by
  by_cases h : p
  · rw [if_neg (by simp [h])]; exact h2 h
  · rw [if_pos (by simp [h])]; exact h1 h
theorem ifI {i j : Int} {A B : Prop} (h1 : i = j → A) (h2 : i ≠ j → B) : if decide (V.int i = V.int j) = true then A else B := ifD (fun e => h1 (V.int.inj e)) (fun e => h2 fun z => e (by rw [z]))
theorem ifNI {i j : Int} {A B : Prop} (h1 : i ≠ j → A) (h2 : i = j → B) : if (!decide (V.int i = V.int j)) = true then A else B := ifN (fun e => h1 fun z => e (by rw [z])) (fun e => h2 (V.int.inj e))
theorem ifB {c : Bool} {A B : Prop} (h1 : c = true → A) (h2 : c = false → B) : if c = true then A else B := by
  cases c with
  | true => exact iteT (h1 rfl)
  | false => exact iteF (h2 rfl)
theorem ifT {c : Bool} {A B : Prop} (e : c = true) (h : A) : if c = true then A else B := by rw [if_pos e]; exact h
theorem ifF {c : Bool} {A B : Prop} (e : c = false) (h : B) : if c = true then A else B := by rw [e]; exact iteF h
/-! ### heaps -/
/-- the list at d begins with the object at c -/
def At (H : Hp) (d c : Addr) : Prop := ∃ r : List V, H d = some (.lst (.ref c :: r))
/-- all but what stands at d is as it was; a list at d keeps its first item -/
structure But (d : Addr) (H H' : Hp) : Prop where
  keep : ∀ b o, b ≠ d → H b = some o → H' b = some o
  hd : ∀ c, At H d c → At H' d c
instance {d : Addr} {H H' : Hp} : CoeFun (But d H H') (fun _ => ∀ b o, b ≠ d → H b = some o → H' b = some o) := ⟨But.keep⟩
theorem But.refl (d : Addr) (H : Hp) : But d H H := ⟨fun _ _ _ h => h, fun _ h => h⟩
theorem But.trans {d : Addr} {H H1 H2 : Hp} (a : But d H H1) (b : But d H1 H2) : But d H H2 := ⟨fun c o n h => b c o n (a c o n h), fun c h => b.hd c (a.hd c h)⟩
theorem _root_.L2.Same.but {d : Addr} {H H1 : Hp} (a : Same H H1) : But d H H1 := ⟨fun c o _ h => a c o h, fun c h => by
  obtain ⟨r, e⟩ := h
  exact ⟨r, a _ _ e⟩⟩
theorem same_new {H : Hp} {p : Addr} {o : HO} (h : H p = none) : Same H (upd H p o) := fun b x e => by
  rw [upd_ne (ne_of_none e h)]
  exact e
theorem same_mut {H H' : Hp} {p : Addr} {o : HO} (e : Same H H') (h : H p = none) : Same H (upd H' p o) := fun a u ha => by
  rw [upd_ne (ne_of_none ha h)]
  exact e a u ha
theorem but_mut {H H' : Hp} {d : Addr} {o : HO} (e : But d H H') (ho : ∀ c, At H' d c → ∃ r : List V, o = .lst (.ref c :: r)) : But d H (upd H' d o) := ⟨fun a u n ha => by
  rw [upd_ne n]
  exact e a u n ha, fun c h => by
  obtain ⟨r, z⟩ := ho c (e.hd c h)
  exact ⟨r, by rw [upd_same, z]⟩⟩
theorem but_mut2 {H H' : Hp} {d p : Addr} {o : HO} (e : But d H H') (h : H p = none) : But d H (upd H' p o) := ⟨fun a u n ha => by
  rw [upd_ne (ne_of_none ha h)]
  exact e a u n ha, fun c k => by
  obtain ⟨r, z⟩ := e.hd c k
  obtain ⟨_, y⟩ := k
  exact ⟨r, by rw [upd_ne (ne_of_none y h)]; exact z⟩⟩
theorem But.free {d : Addr} {H H' : Hp} (e : But d H H') {l : Addr} (n : l ≠ d) (h : H' l = none) : H l = none := by
  cases q : H l with
  | none => rfl
  | some o =>
    rw [e l o n q] at h
    cases h
theorem _root_.L2.Same.tup {K : PySem.W.Frag} {H H' : Hp} {a : Addr} {xs : List V} (e : Same H H') (h : SqT K H a xs) : SqT K H' a xs := by
  rcases h with (h | ⟨o, h⟩) | h
  · exact .inl (.inl (e _ _ h))
  · exact .inl (.inr ⟨o, e _ _ h⟩)
  · exact .inr h
theorem sz {n : Nat} (h : n ≤ 100000) : n ≤ sizeLine := Nat.le_trans h (by decide)
theorem szl {n : Nat} (h : n < 100000) : n < sizeLine := Nat.lt_of_lt_of_le h (by decide)
theorem szM {n : Nat} (h : n ≤ 1000000) : n < sizeLine := Nat.lt_of_le_of_lt h (by decide)
/-! ### arithmetic -/
theorem mul_bd {a b A B : Int} (ha : 0 ≤ a) (ha' : a ≤ A) (hb : 0 ≤ b) (hb' : b ≤ B) : 0 ≤ a * b ∧ a * b ≤ A * B :=
  ⟨Int.mul_nonneg ha hb, Int.mul_le_mul ha' hb' hb (Int.le_trans ha ha')⟩
theorem mod_bd (a : Int) {b : Int} (h : 0 < b) : 0 ≤ a % b ∧ a % b < b := ⟨Int.emod_nonneg a (by omega), Int.emod_lt_of_pos a h⟩
/-! ### xs.count(y), flat items -/
def rCntA (K : PySem.W.Frag) : V → List V → Hp → VK → Prop := fun x xs H Q => ∃ (p : Addr) (ys : List V) (y : V), x = .ref p ∧ xs = [y] ∧ SqL K H p ys ∧ flatV y = true ∧ ys.all flatV = true ∧ Q (.int (ys.countP (fun z => eqV z y) : Nat)) H
theorem countP_eqU {x : V} : ∀ {xs : List V} {us : List Value}, Vals xs us → xs.all flatV = true → us.countP (eqU x) = xs.countP fun y => eqV y x
  | _, _, .nil, _ => rfl
  | y :: xs, u :: us, .cons r t, f => by
    rw [List.all_cons, Bool.and_eq_true] at f
    rw [List.countP_cons, List.countP_cons, eqU_of r f.1, countP_eqU t f.2]
theorem mt_countA {X : Cx} : MtR X "list.count" (rCntA X.K) := by
  intro pins s σ H x xs v us Q I rx rxs h
  obtain ⟨p, ys, y, rfl, rfl, hs, fy, fs, q⟩ := h
  cases rx
  obtain ⟨u, rfl, ru⟩ := rxs.one
  obtain ⟨its, rv, ⟨⟨cls, dd, data, sl⟩, n, ho, hc, hdn, hd⟩, hlen⟩ := I.list hs
  simp only at hc hd
  subst hc hd
  refine call_meets PySem.F.slot_list_count ⟨_, ho, rfl⟩ PySem.F.entry_list_count (PySem.F.args_list_count_2 _ _)
    (SeqAt.list_countAt p its.toArray n dd sl u (eqU y)) ⟨ho, fun z hz => mem_eqAt ru fy rv fs z (by simpa using hz), ?_⟩
  have ec : its.toArray.toList.countP (eqU y) = ys.countP fun z => eqV z y := countP_eqU rv fs
  refine ⟨.int (ys.countP (fun z => eqV z y) : Nat), H, I.tok _, ⟨s.toks, ?_⟩, q⟩
  show Value.int ((its.toArray.toList.countP (eqU y) : Nat) : Int) s.toks = _
  rw [ec]
/-- while True -/
theorem pt_true {X : Cx} {j pos} : PT X (.Constant (.bool true) j pos) (fun _ H Q => Q true H) := by
  have h : PT X (.Constant (.bool true) j pos) (tB (tC (.bl true))) := pt_val pe_bl
  exact ⟨fun pins s σ H Q I q => h.run pins s σ H Q I ⟨true, rfl, q⟩⟩
/-- an item of a list of ints -/
theorem at_ints {ns : List Int} {v : Int} (h0 : 0 ≤ v) (h1 : v < ns.length) : ∃ x, x ∈ ns ∧ atI (ns.map V.int) v = some (.int x) := by
  obtain ⟨j, rfl⟩ := Int.eq_ofNat_of_zero_le h0
  have jl : j < ns.length := by omega
  refine ⟨ns[j], List.getElem_mem jl, atI_nat ?_⟩
  rw [List.getElem?_map, List.getElem?_eq_getElem jl]
  rfl
end Tw

/-! The draws: what each of the common defs promises. -/
namespace Tw
open PySem PySem.Spec PyProof.Rows L2

def pMix : V → V → Hp → VK → XK → Prop := fun a b H Q _ => ∃ c k : Int, a = .int c ∧ b = .int k ∧ 0 ≤ k ∧ k < 1000000000 ∧ ∀ v : Int, 0 ≤ v → Q (.int v) H
/-- a deck: its cells, where it stands, what is left of a great cell, how many were mixed, the sum -/
def Deck (H : Hp) (d : Addr) (n : Nat) : Prop := ∃ (c : Addr) (xs : List Int) (i r k t : Int), H d = some (.lst [.ref c, .int i, .int r, .int k, .int t]) ∧ H c = some (.lst (xs.map V.int)) ∧ c ≠ d ∧ xs.length ≤ 63 ∧ 0 ≤ i ∧ i ≤ (xs.length : Int) ∧ 0 ≤ r ∧ 0 ≤ k ∧ k ≤ (n : Int)
theorem Deck.mono {H : Hp} {d : Addr} {n m : Nat} (h : Deck H d n) (l : n ≤ m) : Deck H d m := by
  obtain ⟨c, xs, i, r, k, t, a1, a2, a3, a4, a5, a6, a7, a8, a9⟩ := h
  exact ⟨c, xs, i, r, k, t, a1, a2, a3, a4, a5, a6, a7, a8, by omega⟩
theorem Deck.same {H H' : Hp} {d : Addr} {n : Nat} (h : Deck H d n) (s : Same H H') : Deck H' d n := by
  obtain ⟨c, xs, i, r, k, t, a1, a2, a3⟩ := h
  exact ⟨c, xs, i, r, k, t, s _ _ a1, s _ _ a2, a3⟩
theorem Deck.ne {H : Hp} {d p : Addr} {n : Nat} (h : Deck H d n) (e : H p = none) : p ≠ d := by
  obtain ⟨c, xs, i, r, k, t, a1, _⟩ := h
  intro z
  rw [z, a1] at e
  cases e
theorem Deck.ne_tup {H : Hp} {d p : Addr} {n : Nat} {xs : List V} (h : Deck H d n) (e : H p = some (.tup xs)) : p ≠ d := by
  obtain ⟨c, xs, i, r, k, t, a1, _⟩ := h
  intro z
  rw [z, a1] at e
  cases e
theorem Deck.fresh {H H' : Hp} {d p : Addr} {n m : Nat} (h : Deck H d n) (h' : Deck H' d m) (b : But d H H') (e : H' p = none) : H p = none := b.free (h'.ne e) e
/-- a list that is none of the deck's -/
def Out (H : Hp) (d L : Addr) : Prop := L ≠ d ∧ ∀ c, At H d c → c ≠ L
theorem Deck.out {H : Hp} {d L : Addr} {n : Nat} {o : HO} (D : Deck H d n) (e : H L = none) : Out (upd H L o) d L := by
  obtain ⟨c, xs, i, r, k, t, a1, a2, a3⟩ := D
  have n1 : L ≠ d := fun z => by rw [z, a1] at e; cases e
  have n2 : c ≠ L := fun z => by rw [← z, a2] at e; cases e
  refine ⟨n1, fun c' h => ?_⟩
  obtain ⟨r', y⟩ := h
  rw [upd_ne (Ne.symm n1), a1] at y
  cases y
  exact n2
theorem Out.but {H H' : Hp} {d L : Addr} {n m : Nat} (h : Out H d L) (D : Deck H d n) (D' : Deck H' d m) (b : But d H H') : Out H' d L := by
  obtain ⟨c, xs, i, r, k, t, a1, a2, a3⟩ := D
  obtain ⟨r1, e1⟩ := b.hd c ⟨_, a1⟩
  refine ⟨h.1, fun c' hc => ?_⟩
  obtain ⟨r2, e2⟩ := hc
  rw [e1] at e2
  cases e2
  exact h.2 _ ⟨_, a1⟩
theorem Out.mut {H : Hp} {d L : Addr} {o : HO} (h : Out H d L) : Out (upd H L o) d L := ⟨h.1, fun c hc => h.2 c (by
  obtain ⟨r, e⟩ := hc
  rw [upd_ne (Ne.symm h.1)] at e
  exact ⟨r, e⟩)⟩
theorem Deck.mut {H : Hp} {d L : Addr} {n : Nat} {o : HO} (D : Deck H d n) (h : Out H d L) : Deck (upd H L o) d n := by
  obtain ⟨c, xs, i, r, k, t, a1, a2, a3⟩ := D
  exact ⟨c, xs, i, r, k, t, by rw [upd_ne (Ne.symm h.1)]; exact a1, by rw [upd_ne (h.2 c ⟨_, a1⟩)]; exact a2, a3⟩
def pDeck (K : PySem.W.Frag) : V → Hp → VK → XK → Prop := fun a H Q _ => ∃ (s : Addr) (xs : List Int), a = .ref s ∧ SqL K H s (xs.map V.int) ∧ ∀ H' d, Same H H' → H d = none → Deck H' d 0 → Q (.ref d) H'
/-- a draw below m -/
def pNext (c : Nat) : V → V → Hp → VK → XK → Prop := fun a b H Q _ => ∃ (d : Addr) (n : Nat) (m : Int), a = .ref d ∧ b = .int m ∧ 0 < m ∧ m < 1000000000000000000000000000000000000000000 ∧ Deck H d n ∧ n + c ≤ 100000000 ∧
  ∀ (H' : Hp) (v : Int), But d H H' → Deck H' d (n + c) → 0 ≤ v → v < m → Q (.int v) H'
/-- a bound -/
def pBound : V → V → Hp → VK → XK → Prop := fun a b H Q _ => ∃ (d : Addr) (n : Nat) (m : Int), a = .ref d ∧ b = .int m ∧ 100 ≤ m ∧ m ≤ 1000000000000 ∧ Deck H d n ∧ n < 90000000 ∧
  ∀ (H' : Hp) (v : Int), But d H H' → Deck H' d (n + 50) → 1 ≤ v → v ≤ m → Q (.int v) H'
/-- a rule (times, plus, bound), read at r -/
structure Rule (t p b : Int) : Prop where
  b1 : 1 ≤ b
  b2 : b ≤ 1000000000000
  t0 : 0 ≤ t
  t1 : t < b
  p0 : 0 ≤ p
  p1 : p < b
def pRule : V → V → Hp → VK → XK → Prop := fun a b H Q _ => ∃ (d : Addr) (n : Nat) (m : Int), a = .ref d ∧ b = .int m ∧ 100 ≤ m ∧ m ≤ 1000000000000 ∧ Deck H d n ∧ n < 80000000 ∧
  ∀ (H' : Hp) (r : Addr) (t p b : Int), But d H H' → Deck H' d (n + 60) → H r = none → H' r = some (.tup [.int t, .int p, .int b]) → Rule t p b → b ≤ m → Q (.ref r) H'
theorem cut_take (xs : List V) (n : Nat) : cutV xs none (some (n : Int)) = xs.take n := by
  unfold cutV
  rw [HT.sIx_none, HT.sIx_nat]
  show List.take (min n xs.length - 0) (List.drop 0 xs) = _
  rw [List.drop_zero, Nat.sub_zero]
  by_cases h : n ≤ xs.length
  · rw [Nat.min_eq_left h]
  · rw [Nat.min_eq_right (by omega), List.take_of_length_le (Nat.le_refl _), List.take_of_length_le (by omega)]
/-- the classes of the refusals as the top has left them -/
structure Err (K : PySem.W.Frag) (mg : Str → Option Value) (CR CA CB CF CN CU : Addr) : Prop where
  gR : mg "RowError" = some (.ref CR)
  gA : mg "NoAsk" = some (.ref CA)
  gB : mg "NoBack" = some (.ref CB)
  gF : mg "NoFit" = some (.ref CF)
  gN : mg "NoNumber" = some (.ref CN)
  gU : mg "NoRule" = some (.ref CU)
/-- an error's class against all: which of the five it is -/
structure Kit (K : PySem.W.Frag) (C CR CA CB CF CN CU : Addr) (a b f n u : Bool) : Prop where
  xc : XcC K C
  r : PySem.W.kitOne K (.ref C) (.ref CR) = some true
  v : PySem.W.kitOne K (.ref C) (.type "ValueError") = some true
  a : PySem.W.kitOne K (.ref C) (.ref CA) = some a
  b : PySem.W.kitOne K (.ref C) (.ref CB) = some b
  f : PySem.W.kitOne K (.ref C) (.ref CF) = some f
  n : PySem.W.kitOne K (.ref C) (.ref CN) = some n
  u : PySem.W.kitOne K (.ref C) (.ref CU) = some u
/-- a number that is none: kept by the error -/
def pKindN (CN : Addr) : V → Hp → VK → XK → Prop := fun a H Q _ => ∃ (e dd : Addr) (v : V), a = .ref e ∧ H e = some (exv e (.ref CN) (some dd)) ∧ H dd = some (.xd [("number", v)]) ∧
  ∀ H' p, Same H H' → H p = none → H' p = some (.tup [.str "number", v]) → Q (.ref p) H'
/-- a number that is none of a bound's -/
def pWrong : V → V → Hp → VK → XK → Prop := fun a b H Q _ => ∃ (d : Addr) (n : Nat) (m : Int), a = .ref d ∧ b = .int m ∧ 0 < m ∧ m ≤ 1000000000000 ∧ Deck H d n ∧ n + 4 ≤ 100000000 ∧
  ∀ (H' : Hp) (v : Int), But d H H' → Deck H' d (n + 4) → (v < 0 ∨ m ≤ v) → Q (.int v) H'
end Tw

/-! The program's steps and rounds: the mathematics of a walk, and the promises. -/
namespace Tw
open PySem PySem.Spec PyProof.Rows L2

/-! ### walks -/
def stp (t p m x : Int) : Int := (t * x + p) % m
theorem stp_rng {t p m : Int} (h : 0 < m) (x : Int) : 0 ≤ stp t p m x ∧ stp t p m x < m := mod_bd _ h
def wk (f : Int → Int) : Nat → List Int → Int → List Int × Int
  | 0, ws, x => (ws, x)
  | k + 1, ws, x => if x ∈ ws then (ws, x) else wk f k (ws ++ [x]) (f x)
theorem wk_in {f : Int → Int} {ws : List Int} {x : Int} (h : x ∈ ws) : ∀ k, wk f k ws x = (ws, x)
  | 0 => rfl
  | k + 1 => by unfold wk; rw [if_pos h]
theorem wk_out {f : Int → Int} {ws : List Int} {x : Int} (h : x ∉ ws) (k : Nat) : wk f (k + 1) ws x = wk f k (ws ++ [x]) (f x) := by
  conv => lhs; unfold wk
  rw [if_neg h]
theorem nat_len : ∀ (n : Nat) (l : List Nat), l.Nodup → (∀ x ∈ l, x < n) → l.length ≤ n
  | 0, l, _, h => by
    cases l with
    | nil => exact Nat.le_refl _
    | cons a r => exact absurd (h a List.mem_cons_self) (Nat.not_lt_zero _)
  | n + 1, l, nd, h => by
    by_cases hn : n ∈ l
    · have ih := nat_len n (l.erase n) (nd.erase n) (fun x hx => by
        obtain ⟨h1, h2⟩ := nd.mem_erase_iff.mp hx
        have := h x h2
        omega)
      rw [List.length_erase_of_mem hn] at ih
      omega
    · have ih := nat_len n l nd (fun x hx => by
        have := h x hx
        have : x ≠ n := fun e => hn (e ▸ hx)
        omega)
      omega
def Rng (m : Int) (ws : List Int) : Prop := ∀ x ∈ ws, 0 ≤ x ∧ x < m
theorem int_len {m : Int} {ws : List Int} (nd : ws.Nodup) (h : Rng m ws) : ws.length ≤ m.toNat := by
  have h1 : (ws.map Int.toNat).Nodup := by
    rw [List.nodup_iff_pairwise_ne] at nd ⊢
    rw [List.pairwise_map]
    refine List.Pairwise.imp_of_mem (fun {a b} ha hb hne => ?_) nd
    have := h a ha
    have := h b hb
    omega
  have := nat_len m.toNat (ws.map Int.toNat) h1 (fun x hx => by
    obtain ⟨y, hy, rfl⟩ := List.mem_map.mp hx
    have := h y hy
    omega)
  rw [List.length_map] at this
  exact this
theorem nodup_snoc {ws : List Int} {x : Int} (nd : ws.Nodup) (h : x ∉ ws) : (ws ++ [x]).Nodup := by
  rw [List.nodup_append]
  refine ⟨nd, by simp, fun a ha b hb => ?_⟩
  rw [List.mem_singleton] at hb
  subst hb
  exact fun e => h (e ▸ ha)
theorem rng_snoc {m : Int} {ws : List Int} {x : Int} (h : Rng m ws) (hx : 0 ≤ x ∧ x < m) : Rng m (ws ++ [x]) := fun y hy => by
  rcases List.mem_append.mp hy with hy | hy
  · exact h y hy
  · rw [List.mem_singleton.mp hy]; exact hx
theorem wk_good {t p m : Int} (m0 : 0 < m) : ∀ (k : Nat) (ws : List Int) (x : Int), ws.Nodup → Rng m ws → 0 ≤ x ∧ x < m → m.toNat + 1 ≤ k + ws.length →
    (wk (stp t p m) k ws x).1.Nodup ∧ Rng m (wk (stp t p m) k ws x).1 ∧ (wk (stp t p m) k ws x).2 ∈ (wk (stp t p m) k ws x).1
  | 0, ws, x, nd, rg, hx, hk => by
    have := int_len nd rg
    omega
  | k + 1, ws, x, nd, rg, hx, hk => by
    by_cases h : x ∈ ws
    · rw [wk_in h]
      exact ⟨nd, rg, h⟩
    · rw [wk_out h]
      exact wk_good m0 k (ws ++ [x]) (stp t p m x) (nodup_snoc nd h) (rng_snoc rg hx) (stp_rng m0 x) (by rw [List.length_append]; show m.toNat + 1 ≤ k + (ws.length + 1); omega)
/-! ### a dict of places -/
def enumD : Nat → List Int → List (Key × V)
  | _, [] => []
  | i, w :: ws => (Sum.inl w, V.int (i : Int)) :: enumD (i + 1) ws
theorem enumD_len : ∀ (i : Nat) (ws : List Int), (enumD i ws).length = ws.length
  | _, [] => rfl
  | i, w :: ws => by show (enumD (i + 1) ws).length + 1 = ws.length + 1; rw [enumD_len]
theorem enumD_snoc : ∀ (i : Nat) (ws : List Int) (x : Int), enumD i (ws ++ [x]) = enumD i ws ++ [(Sum.inl x, V.int ((i + ws.length : Nat) : Int))]
  | i, [], x => rfl
  | i, w :: ws, x => by
    show (Sum.inl w, V.int (i : Int)) :: enumD (i + 1) (ws ++ [x]) = (Sum.inl w, V.int (i : Int)) :: enumD (i + 1) ws ++ [(Sum.inl x, V.int ((i + (ws.length + 1) : Nat) : Int))]
    rw [enumD_snoc, show i + 1 + ws.length = i + (ws.length + 1) by omega]
    rfl
theorem enumD_none : ∀ (i : Nat) {ws : List Int} {x : Int}, x ∉ ws → valV (enumD i ws) (Sum.inl x) = none
  | _, [], _, _ => rfl
  | i, w :: ws, x, h => by
    show valV ((Sum.inl w, V.int (i : Int)) :: enumD (i + 1) ws) (Sum.inl x) = none
    rw [valV_neg (fun e => h (by rw [← Sum.inl.inj e]; exact List.mem_cons_self))]
    exact enumD_none (i + 1) (fun hm => h (List.mem_cons_of_mem _ hm))
theorem enumD_some : ∀ (i : Nat) {ws : List Int} {x : Int}, x ∈ ws → valV (enumD i ws) (Sum.inl x) = some (V.int ((i + ws.idxOf x : Nat) : Int))
  | i, w :: ws, x, h => by
    show valV ((Sum.inl w, V.int (i : Int)) :: enumD (i + 1) ws) (Sum.inl x) = _
    by_cases e : w = x
    · subst e
      rw [valV_pos rfl, List.idxOf_cons_self]
      rfl
    · have e2 : (w :: ws).idxOf x = ws.idxOf x + 1 := by
        rw [List.idxOf_cons]
        simp [beq_eq_false_iff_ne.mpr e]
      rw [valV_neg (fun z => e (Sum.inl.inj z)), e2, enumD_some (i + 1) ((List.mem_cons.mp h).resolve_left (fun z => e z.symm))]
      congr 2
      omega
theorem upd_self {H : Hp} {a : Addr} {o : HO} (h : H a = some o) : upd H a o = H := by
  funext b
  by_cases e : b = a
  · rw [e, upd_same, h]
  · rw [upd_ne e]
theorem sqT_upd {K : PySem.W.Frag} {H : Hp} {r a : Addr} {xs : List V} {o u : HO} (h : SqT K H r xs) (ha : H a = some u) (n1 : ∀ ys, u ≠ .tup ys) (n2 : ∀ ob v, u ≠ .frz ob v) : SqT K (upd H a o) r xs := by
  rcases h with (h | ⟨ob, h⟩) | h
  · refine .inl (.inl ?_)
    rw [upd_ne (fun e => n1 xs (by rw [e, ha] at h; exact Option.some.inj h))]
    exact h
  · refine .inl (.inr ⟨ob, ?_⟩)
    rw [upd_ne (fun e => n2 ob _ (by rw [e, ha] at h; exact Option.some.inj h))]
    exact h
  · exact .inr h
/-! ### refusals -/
/-- the error behind a number that is none: its own dict d, new -/
def Bad (CN : Addr) (n : Int) (H : Hp) (E : XK) : Prop := ∀ d, H d = none → E (.ref CN) (some d) (upd H d (.xd [("number", .int n)]))
theorem made_eq {H : Hp} {a d : Addr} {C : Addr} {fs : List (Str × V)} (na : H a = none) (nd : d ≠ a) :
    upd (L2.del (upd (upd (upd H a (exo a C none)) d (exd d fs)) a (exo a C (some d))) a) d (.xd fs) = upd H d (.xd fs) := by
  funext b
  by_cases hb : b = d
  · rw [hb, upd_same, upd_same]
  · rw [upd_ne hb, upd_ne hb]
    by_cases ha : b = a
    · rw [ha, del_same, na]
    · rw [del_ne ha, upd_ne ha, upd_ne hb, upd_ne ha]
def spInit (K : PySem.W.Frag) : Sp := sp2 fun x v H Q _ => ∃ (a C : Addr), x = .ref a ∧ OexC K C ∧ PySem.W.findIn K (.ref C) "number" = some none ∧ H a = some (exo a C none) ∧ ∀ d, H d = none → d ≠ a → Q .non (upd (upd H d (exd d [("number", v)])) a (exo a C (some d)))
def pWhole : V → Hp → VK → XK → Prop := fun a H Q _ => ∃ n : Int, a = .int n ∧ Q (.bl true) H
def pIsNum : V → V → Hp → VK → XK → Prop := fun a b H Q _ => ∃ n m : Int, a = .int n ∧ b = .int m ∧ Q (.bl (decide (0 ≤ n ∧ n < m))) H
def pCheck (CN : Addr) : V → V → Hp → VK → XK → Prop := fun a b H Q E => ∃ n m : Int, a = .int n ∧ b = .int m ∧ (0 ≤ n → n < m → Q .non H) ∧ (¬ (0 ≤ n ∧ n < m) → Bad CN n H E)
def pNextOf (K : PySem.W.Frag) (CN : Addr) : V → V → Hp → VK → XK → Prop := fun a b H Q E => ∃ (r : Addr) (t p m n : Int), a = .ref r ∧ b = .int n ∧ SqT K H r [.int t, .int p, .int m] ∧ Rule t p m ∧
  (0 ≤ n → n < m → Q (.int (stp t p m n)) H) ∧ (¬ (0 ≤ n ∧ n < m) → Bad CN n H E)
def pWalk (K : PySem.W.Frag) : V → V → V → Hp → VK → XK → Prop := fun a b c H Q _ => ∃ (r : Addr) (t p m s : Int) (l : Addr) (ws : List Int), a = .ref r ∧ b = .int s ∧ c = .ref l ∧ SqT K H r [.int t, .int p, .int m] ∧ Rule t p m ∧ m ≤ 1000000 ∧ 0 ≤ s ∧ s < m ∧
  H l = some (.dK (enumD 0 ws)) ∧ ws.Nodup ∧ Rng m ws ∧ Q (.int (wk (stp t p m) (m.toNat + 1 - ws.length) ws s).2) (upd H l (.dK (enumD 0 (wk (stp t p m) (m.toNat + 1 - ws.length) ws s).1)))
/-- tail and length -/
def rndW (t p m s : Int) : List Int × Int := wk (stp t p m) (m.toNat + 1) [] s
def rndT (t p m s : Int) : Int := (((rndW t p m s).1.idxOf (rndW t p m s).2 : Nat) : Int)
def rndL (t p m s : Int) : Int := ((rndW t p m s).1.length : Int) - rndT t p m s
def pRound (K : PySem.W.Frag) (CN : Addr) : V → V → Hp → VK → XK → Prop := fun a b H Q E => ∃ (r : Addr) (t p m s : Int), a = .ref r ∧ b = .int s ∧ SqT K H r [.int t, .int p, .int m] ∧ Rule t p m ∧ m ≤ 1000000 ∧
  (0 ≤ s → s < m → ∀ H' q, Same H H' → H q = none → H' q = some (.tup [.int (rndT t p m s), .int (rndL t p m s)]) → Q (.ref q) H') ∧ (¬ (0 ≤ s ∧ s < m) → Bad CN s H E)
def pRoundL (K : PySem.W.Frag) : V → V → Hp → VK → XK → Prop := fun a b H Q _ => ∃ (r : Addr) (t p m s : Int), a = .ref r ∧ b = .int s ∧ SqT K H r [.int t, .int p, .int m] ∧ Rule t p m ∧ m ≤ 1000000 ∧ 0 ≤ s ∧ s < m ∧
  ∀ H' q, Same H H' → H q = none → H' q = some (.tup [.int (rndT t p m s), .int (rndL t p m s)]) → Q (.ref q) H'
/-- a refusal that was asked for: True -/
def pRefR (K : PySem.W.Frag) : V → V → Hp → VK → XK → Prop := fun a b H Q _ => ∃ (r : Addr) (t p m n : Int), a = .ref r ∧ b = .int n ∧ SqT K H r [.int t, .int p, .int m] ∧ Rule t p m ∧ m ≤ 1000000 ∧ (n < 0 ∨ m ≤ n) ∧ ∀ H', Same H H' → Q (.bl true) H'
/-- data that are alike -/
theorem eqv_self {d : PyData} (h : SeqAt.shaped d = true) : PyData.eqv d d = true := SeqAt.eqv_refl d (SeqAt.canLay_of_shaped h)
theorem shp_sn (n : Int) : SeqAt.shaped (.tuple [.str "number", .int n]) = true := by
  have h : PyData.canLay0 (.str "number") = true := by decide +kernel
  show (PyData.canLay0 (.tuple [.str "number", .int n]) && decide (PyData.depth (.tuple [.str "number", .int n]) ≤ 64)) = true
  simp [PyData.canLay0, PyData.canLayAll0] at h ⊢
  exact ⟨h, of_decide_eq_true rfl⟩
theorem dp_ints {K : PySem.W.Frag} {H : Hp} : ∀ ns : List Int, DpAll K H (ns.map V.int) (ns.map PyData.int)
  | [] => .nil
  | n :: ns => .cons (.int n) (dp_ints ns)
/-! ### what the top has left -/
theorem top_mk {K : PySem.W.Frag} {h : Heap} {mg : Str → Option Value} {x : Str} {st : Stmt} {ps : List Str} {f : Addr} {oc : Value} {od an : Option Addr} {sl : Array (Option Value)} {kV dc pm cd ct : Value} (X : K.In h) (G : h.Ns mainGlobals mg)
    (a : PySem.W.nsIn K mainGlobals x = some (some (.ref f))) (l : K.lookup f = some ⟨oc, od, .func (PySem.W.fnOf x x (defArgs st) (defBody st) (defScope st) .none kV dc pm an cd ct), sl⟩) (c : PySem.W.codeIn K cd x = true) (k : PySem.W.keepIn K (.ref f) = true)
    (hb : ∀ (kV doc pm : Value) (an : Option Addr) (cdv ct : Value) (us : List Value), us.length = ps.length → bindArgs (PySem.W.fnOf x x (defArgs st) (defBody st) (defScope st) .none kV doc pm an cdv ct) ⟨us, []⟩ = pure (ps.zip us)) : Top K mg x st ps :=
  ⟨f, _, fun_mk l c k, PySem.W.mg_of X G a, (fun_mk l c k).binds hb⟩
end Tw

/-! Rows, and rests by taking away. -/
namespace Tw
open PySem PySem.Spec PyProof.Rows L2
def itr (f : Int → Int) : Nat → Int → Int
  | 0, x => x
  | n + 1, x => f (itr f n x)
def orb (f : Int → Int) (n : Nat) (x : Int) : List Int := (List.range n).map fun i => itr f i x
theorem orb_succ (f : Int → Int) (n : Nat) (x : Int) : orb f (n + 1) x = orb f n x ++ [itr f n x] := by
  unfold orb
  rw [List.range_succ, List.map_append]
  rfl
theorem orb_len (f : Int → Int) (n : Nat) (x : Int) : (orb f n x).length = n := by
  unfold orb
  rw [List.length_map, List.length_range]
theorem itr_rng {t p m s : Int} (m0 : 0 < m) (h : 0 ≤ s ∧ s < m) : ∀ n, 0 ≤ itr (stp t p m) n s ∧ itr (stp t p m) n s < m
  | 0 => h
  | n + 1 => stp_rng m0 _
def pRowFrom (K : PySem.W.Frag) (CN : Addr) : V → V → V → Hp → VK → XK → Prop := fun a b c H Q E => ∃ (r : Addr) (t p m s n : Int), a = .ref r ∧ b = .int s ∧ c = .int n ∧ SqT K H r [.int t, .int p, .int m] ∧ Rule t p m ∧ 0 ≤ n ∧ n ≤ 100000 ∧
  (0 ≤ s → s < m → ∀ H' q, Same H H' → H q = none → H' q = some (.tup ((orb (stp t p m) n.toNat s).map V.int)) → Q (.ref q) H') ∧ (¬ (0 ≤ s ∧ s < m) → Bad CN s H E)
def pRowLaw (K : PySem.W.Frag) : V → V → V → Hp → VK → XK → Prop := fun a b c H Q _ => ∃ (r : Addr) (t p m s n : Int), a = .ref r ∧ b = .int s ∧ c = .int n ∧ SqT K H r [.int t, .int p, .int m] ∧ Rule t p m ∧ 0 ≤ n ∧ n ≤ 100000 ∧ 0 ≤ s ∧ s < m ∧
  ∀ H' q, Same H H' → H q = none → H' q = some (.tup ((orb (stp t p m) n.toNat s).map V.int)) → Q (.ref q) H'
def pRest : V → V → Hp → VK → XK → Prop := fun a b H Q _ => ∃ x m : Int, a = .int x ∧ b = .int m ∧ 0 ≤ x ∧ x < 10000000000000000000000000 ∧ 1 ≤ m ∧ m ≤ 1000000000000 ∧ ∀ H', Same H H' → Q (.int (x % m)) H'
def pWhole2 : V → V → Hp → VK → XK → Prop := fun a b H Q _ => ∃ x : Int, a = .int x ∧ b = .int x ∧ Q (.bl true) H
def pRef2 (K : PySem.W.Frag) : V → V → V → Hp → VK → XK → Prop := fun a b c H Q _ => ∃ (r : Addr) (t p m n k : Int), a = .ref r ∧ b = .int n ∧ c = .int k ∧ SqT K H r [.int t, .int p, .int m] ∧ Rule t p m ∧ 0 ≤ k ∧ k ≤ 100000 ∧ (n < 0 ∨ m ≤ n) ∧ ∀ H', Same H H' → Q (.bl true) H'
theorem lay_ints : ∀ ns : List Int, PyData.canLayAll0 (ns.map PyData.int) = true ∧ PyData.depthAll (ns.map PyData.int) = 0
  | [] => ⟨rfl, rfl⟩
  | n :: ns => by
    obtain ⟨h1, h2⟩ := lay_ints ns
    constructor
    · show (PyData.canLay0 (.int n) && PyData.canLayAll0 (ns.map PyData.int)) = true
      rw [h1]
      rfl
    · show max (PyData.depth (.int n)) (PyData.depthAll (ns.map PyData.int)) = 0
      rw [h2]
      rfl
theorem shp_ints (ns : List Int) : SeqAt.shaped (.tuple (ns.map PyData.int)) = true := by
  obtain ⟨h1, h2⟩ := lay_ints ns
  show (PyData.canLayAll0 (ns.map PyData.int) && decide (PyData.depthAll (ns.map PyData.int) + 1 ≤ 64)) = true
  rw [h1, h2]
  rfl
theorem shp_lints (ns : List Int) : SeqAt.shaped (.list (ns.map PyData.int)) = true := by
  obtain ⟨h1, h2⟩ := lay_ints ns
  show (PyData.canLayAll0 (ns.map PyData.int) && decide (PyData.depthAll (ns.map PyData.int) + 1 ≤ 64)) = true
  rw [h1, h2]
  rfl
theorem two_pos (k : Nat) : (1 : Int) ≤ 2 ^ k := Int.pow_pos (by decide)
theorem two_small {k : Nat} {b x : Int} (hb : 1 ≤ b) (h : 2 ^ k * b ≤ x) (hx : x < 10000000000000000000000000) : k < 84 := by
  refine Nat.lt_of_not_le fun hk => ?_
  obtain ⟨j, rfl⟩ : ∃ j, k = 84 + j := ⟨k - 84, by omega⟩
  have e : (2 : Int) ^ (84 + j) = 2 ^ 84 * 2 ^ j := Int.pow_add ..
  have h1 := two_pos j
  have h2 : (2 : Int) ^ 84 * 1 ≤ 2 ^ 84 * 2 ^ j := Int.mul_le_mul_of_nonneg_left h1 (by decide)
  have h3 : (2 : Int) ^ (84 + j) * 1 ≤ 2 ^ (84 + j) * b := Int.mul_le_mul_of_nonneg_left hb (by have := two_pos (84 + j); omega)
  have h4 : (2 : Int) ^ 84 = 19342813113834066795298816 := by decide
  omega
def dbl (b : Int) (k : Nat) : List Int := (List.range (k + 1)).map fun i => 2 ^ i * b
theorem dbl_succ (b : Int) (k : Nat) : dbl b (k + 1) = dbl b k ++ [2 * (2 ^ k * b)] := by
  unfold dbl
  rw [List.range_succ (n := k + 1), List.map_append]
  show _ ++ [2 ^ (k + 1) * b] = _
  rw [Int.pow_succ, Int.mul_comm (2 ^ k) 2, Int.mul_assoc]
theorem dbl_last (b : Int) : ∀ k, ∃ l, dbl b k = l ++ [2 ^ k * b]
  | 0 => ⟨[], rfl⟩
  | k + 1 => ⟨dbl b k, by rw [dbl_succ, Int.pow_succ, Int.mul_comm (2 ^ k) 2, Int.mul_assoc]⟩
theorem dbl_len (b : Int) (k : Nat) : (dbl b k).length = k + 1 := by
  unfold dbl
  rw [List.length_map, List.length_range]
theorem dbl_rev {b : Int} {k i : Nat} (h : i ≤ k) : (dbl b k).reverse[i]? = some (2 ^ (k - i) * b) := by
  rw [List.getElem?_reverse (by rw [dbl_len]; omega), dbl_len]
  unfold dbl
  rw [List.getElem?_map, List.getElem?_range (by omega)]
  show some (2 ^ (k + 1 - 1 - i) * b) = _
  rw [show k + 1 - 1 - i = k - i by omega]
theorem two_half {b : Int} {k i : Nat} (h : i ≤ k) : (2 : Int) ^ (k + 1 - i) * b = 2 * (2 ^ (k - i) * b) := by
  rw [show k + 1 - i = (k - i) + 1 by omega, Int.pow_succ, Int.mul_comm (2 ^ (k - i)) 2, Int.mul_assoc]
end Tw

/-! zip of two and of three, lists and tuples in any mix. -/
namespace Tw
open PySem PySem.Spec PyProof.Rows L2

/-- at a stands a list, or (true) a tuple -/
def SqX (K : PySem.W.Frag) : Bool → Hp → Addr → List V → Prop
  | true => SqT K
  | false => SqL K
def ItX : Bool → Heap → Addr → Addr → Nat → Prop
  | true, h, it, a, i => h.IsTupleIter it a i
  | false, h, it, a, i => h.IsListIter it a i
def AtX : Bool → Heap → Addr → Array Value → Prop
  | true, h, a, its => h.IsTuple a its
  | false, h, a, its => h.IsList a its
theorem ItX.obj {t : Bool} {h : Heap} {it a : Addr} {i : Nat} (q : ItX t h it a i) : ∃ o, h.get? it = some o ∧ ∀ v, o.data ≠ .cell v := by
  cases t with
  | true =>
    obtain ⟨o1, e1, _, d1⟩ := q
    exact ⟨o1, e1, fun v q => by rw [d1] at q; cases q⟩
  | false =>
    obtain ⟨o1, e1, _, d1⟩ := q
    exact ⟨o1, e1, fun v q => by rw [d1] at q; cases q⟩
theorem ItX.over {t : Bool} {h h' : Heap} {it a : Addr} {i : Nat} (q : ItX t h it a i) (k : ∀ o, h.get? it = some o → h'.get? it = some o) : ItX t h' it a i := by
  cases t with
  | true => exact Heap.IsTupleIter.at q k
  | false => exact Heap.IsListIter.at q k
theorem drawsX {prog : Program} {w : World} {A : Around} (t : Bool) (hh : A.handled = none) (it a : Addr) (ne : a ≠ it) (its : Array Value) : Draws prog w A it [it, a] its.size (fun i v => its[i]? = some v) (fun i h => ItX t h it a i ∧ AtX t h a its) := by
  cases t with
  | true => exact Draws.tuple hh it a ne its
  | false => exact Draws.list hh it a ne its
theorem beginsX (t : Bool) (a : Addr) (its : Array Value) : ∃ o, Begins (.ref a) o (fun h => AtX t h a its) ∧ ∀ (h : Heap) (it : Addr), h.get? it = some o → ItX t h it a 0 := by
  cases t with
  | true => exact ⟨_, begins_tuple a its, fun h it e => ⟨_, e, rfl, rfl⟩⟩
  | false => exact ⟨_, begins_list a its, fun h it e => ⟨_, e, rfl, rfl⟩⟩
theorem valsX2 {x y : V} {us : List Value} (r : Vals [x, y] us) : ∃ u v, us = [u, v] ∧ RelV x u ∧ RelV y v := by
  cases r with
  | cons a r =>
    cases r with
    | cons b r =>
      cases r
      exact ⟨_, _, rfl, a, b⟩
theorem valsX3 {x y z : V} {us : List Value} (r : Vals [x, y, z] us) : ∃ u v w, us = [u, v, w] ∧ RelV x u ∧ RelV y v ∧ RelV z w := by
  cases r with
  | cons a r =>
    obtain ⟨u, v, rfl, b, c⟩ := valsX2 r
    exact ⟨_, _, _, rfl, a, b, c⟩
theorem neN' {a b : Nat} (h : ¬ a = b) : (a : Addr) ≠ b := h
theorem nin2 {a b c : Nat} (h : ¬ a = b) (h' : ¬ a = c) : (a : Addr) ∉ ([b, c] : List Addr) := fun m => by
  rcases List.mem_cons.mp m with e | m
  · exact h e
  · exact h' (List.mem_singleton.mp m)
theorem sepX2 (n a b : Nat) (la : a < n) (lb : b < n) : ZipSep2 (n + 4) (n + 2) (n + 3) n (n + 1) [n, a] [n + 1, b] := by
  constructor <;> first | exact List.mem_cons_self | (refine neN' ?_; omega) | (refine nin2 ?_ ?_ <;> omega)
theorem sepX3 (n a b c : Nat) (la : a < n) (lb : b < n) (lc : c < n) : ZipSep3 (n + 5) (n + 3) (n + 4) n (n + 1) (n + 2) [n, a] [n + 1, b] [n + 2, c] := by
  constructor <;> first | exact List.mem_cons_self | (refine neN' ?_; omega) | (refine nin2 ?_ ?_ <;> omega)
theorem farX (n a k : Nat) (la : a < n) : (a : Addr) ≠ n + k := by
  refine neN' ?_
  omega
theorem lo5 {n c : Nat} (h : (c : Addr) ∈ ([n + 4, n + 2, n + 3, n, n + 1] : List Addr)) : n ≤ c := by
  have h' : c ∈ ([n + 4, n + 2, n + 3, n, n + 1] : List Nat) := h
  simp at h'
  omega
theorem lo6 {n c : Nat} (h : (c : Addr) ∈ ([n + 5, n + 3, n + 4, n, n + 1, n + 2] : List Addr)) : n ≤ c := by
  have h' : c ∈ ([n + 5, n + 3, n + 4, n, n + 1, n + 2] : List Nat) := h
  simp at h'
  omega
section
variable {X : Cx} {pins : List (Addr × Obj)} {σ : L2.St} {H : Hp} {s : Shared} {t : Bool} {a : Addr} {xs ys : List V}
theorem srcX (I : Inv X pins σ H s) (q : SqX X.K t H a xs) : ∃ its : List Value, Vals xs its ∧ AtX t s.heap a its.toArray ∧ a < s.heap.objs.size := by
  cases t with
  | true =>
    obtain ⟨its, rv, p, _⟩ := I.tuple q
    obtain ⟨o1, ho1, _⟩ := id p
    exact ⟨its, rv, p, Heap.lt_size ho1⟩
  | false =>
    obtain ⟨its, rv, p, _⟩ := I.list q
    exact ⟨its, rv, p.isList, p.lt⟩
theorem injX (I : Inv X pins σ H s) (q : SqX X.K t H a xs) (q' : SqX X.K t H a ys) : xs = ys := by
  cases t with
  | true => exact I.tuple_inj q q'
  | false => exact I.list_inj q q'
end

/-! ### 2 -/
def Itx2 (K : PySem.W.Frag) (t1 t2 : Bool) (a1 a2 : Addr) : It :=
  ⟨fun i H => ∃ (l1 l2 : List V) (x1 x2 : V), SqX K t1 H a1 l1 ∧ SqX K t2 H a2 l2 ∧ l1[i]? = some x1 ∧ l2[i]? = some x2,
    fun i H v H' => ∃ T x1 x2, v = .ref T ∧ H T = none ∧ H' = upd H T (.tup [x1, x2]) ∧ (∀ l, SqX K t1 H a1 l → l[i]? = some x1) ∧ (∀ l, SqX K t2 H a2 l → l[i]? = some x2),
    fun i H => ∃ l1 l2 : List V, SqX K t1 H a1 l1 ∧ SqX K t2 H a2 l2 ∧ i ≤ l1.length ∧ i ≤ l2.length ∧ (i = l1.length ∨ i = l2.length)⟩
theorem turn_x2 {P : Program} {w : World} {K : PySem.W.Frag} {elts : List Expr} {kk : Nat} {tpos : Pos} {t1 t2 : Bool} {a1 a2 z TI TO i1 i2 : Addr} (S : ZipSep2 z TI TO i1 i2 [i1, a1] [i2, a2]) (n1 : a1 ≠ i1) (n2 : a2 ≠ i2) :
    Turn P w K (.Tuple elts kk tpos) (Itx2 K t1 t2 a1 a2) [z, TI, TO, i1, i2] z (fun i h => IsZip h z TI TO .none ∧ IsTupOf2 h TI (.ref i1) (.ref i2) ∧ (∃ y1 y2, IsTupOf2 h TO y1 y2) ∧ ItX t1 h i1 a1 i ∧ ItX t2 h i2 a2 i) where
  mem := by simp
  obj := fun i h st c hc => by
    obtain ⟨hz, hTI, ⟨y1, y2, hTO⟩, h1, h2⟩ := st
    have e' : c = z ∨ c = TI ∨ c = TO ∨ c = i1 ∨ c = i2 := by simpa using hc
    rcases e' with q | q | q | q | q
    · rw [q]; exact ⟨_, hz, fun v q => nomatch q⟩
    · rw [q]; exact ⟨_, hTI, fun v q => nomatch q⟩
    · rw [q]; exact ⟨_, hTO, fun v q => nomatch q⟩
    · rw [q]; exact h1.obj
    · rw [q]; exact h2.obj
  keep := fun i h h' st k => by
    obtain ⟨hz, hTI, ⟨y1, y2, hTO⟩, h1, h2⟩ := st
    exact ⟨k z (by simp) _ hz, k TI (by simp) _ hTI, ⟨y1, y2, k TO (by simp) _ hTO⟩, h1.over fun o q => k i1 (by simp) o q, h2.over fun o q => k i2 (by simp) o q⟩
  item := by
    intro X hP hw hK hc i pins s σ H E I hf st hg
    subst hP hw hK
    obtain ⟨hz, hTI, ⟨y1, y2, hTO⟩, h1, h2⟩ := st
    obtain ⟨l1, l2, x1, x2, q1, q2, g1, g2⟩ := hg
    obtain ⟨s1, r1, p1, _⟩ := srcX I q1
    obtain ⟨u1, w1, v1⟩ := r1.get g1
    obtain ⟨s2, r2, p2, _⟩ := srcX I q2
    obtain ⟨u2, w2, v2⟩ := r2.get g2
    have hh : X.A.in1.handled = none := I.ok.hd hc
    have hzl : z < s.heap.objs.size := Heap.lt_size hz
    refine wpAny_pyNext_zipD2_item S (drawsX t1 hh i1 a1 n1 s1.toArray) (drawsX t2 hh i2 a2 n2 s2.toArray) hz hTI hTO ⟨h1, p1⟩ ⟨h2, p2⟩ (by have := (List.getElem?_eq_some_iff.mp w1).1; simpa using this) (by have := (List.getElem?_eq_some_iff.mp w2).1; simpa using this) fun z1 z2 h' tk e1 e2 z' TO' k1 k2 hT hsz hk => ?_
    obtain rfl : z1 = u1 := by
      rw [List.getElem?_toArray] at e1
      exact Option.some.inj (e1.symm.trans w1)
    obtain rfl : z2 = u2 := by
      rw [List.getElem?_toArray] at e2
      exact Option.some.inj (e2.symm.trans w2)
    refine ⟨_, rfl, wpAny_letOwnedTupleGo_zip (s := { s with heap := h', toks := tk }) z' fun h'' z'' sb => ?_⟩
    have hT2 : h''.get? s.heap.objs.size = some { cls := .type "tuple", data := .seq #[z1, z2] } := (sb.2 _ (Nat.ne_of_gt hzl)).trans hT
    have new : ObjOk X.prog X.w (upd H s.heap.objs.size (.tup [x1, x2])) h'' s.heap.objs.size (.tup [x1, x2]) :=
      ⟨by show 2 ≤ sizeLine; decide, [z1, z2], .cons v1 (.cons v2 .nil), ⟨_, hT2, rfl, _, rfl⟩⟩
    have I1 : Inv X pins σ (upd H s.heap.objs.size (.tup [x1, x2])) { s with heap := h'', toks := tk } :=
      I.turnedNew (t' := tk) (ch := [z, TI, TO, i1, i2]) (fun c o hb q => (sb.2 c (fun q' => hb (by simp [q']))).trans (hk c o (fun q' => hb (by simp [q'])) (fun q' => hb (by simp [q'])) (fun q' => hb (by simp [q'])) (fun q' => hb (by simp [q'])) q)) hf (Nat.le_refl _) new
    refine ⟨.ref s.heap.objs.size, _, I1, rfl, ⟨_, x1, x2, rfl, I.hok.fresh (Nat.le_refl _), rfl, fun l hl => by rw [injX I hl q1]; exact g1, fun l hl => by rw [injX I hl q2]; exact g2⟩, ⟨z'', ?_, ⟨z1, z2, ?_⟩, ?_, ?_⟩, fun c hcm => ?_⟩
    · exact (sb.2 _ S.TIz).trans (hk _ _ S.TIz S.TITO S.TIi1 S.TIi2 hTI)
    · exact (sb.2 _ S.TOz).trans TO'
    · exact k1.1.over fun o q => (sb.2 _ (Ne.symm S.zi1)).trans q
    · exact k2.1.over fun o q => (sb.2 _ (Ne.symm S.zi2)).trans q
    · have hlt : c < s.heap.objs.size := by
        have e' : c = z ∨ c = TI ∨ c = TO ∨ c = i1 ∨ c = i2 := by simpa using hcm
        rcases e' with q | q | q | q | q
        · rw [q]; exact hzl
        · rw [q]; exact Heap.lt_size hTI
        · rw [q]; exact Heap.lt_size hTO
        · rw [q]; obtain ⟨_, e1, _⟩ := h1.obj; exact Heap.lt_size e1
        · rw [q]; obtain ⟨_, e1, _⟩ := h2.obj; exact Heap.lt_size e1
      rw [upd_ne (Nat.ne_of_lt hlt)]
      exact (hf c hcm).1
  done := by
    intro X hP hw hK hc i pins s σ H E I hf st hg
    subst hP hw hK
    obtain ⟨hz, hTI, ⟨y1, y2, hTO⟩, h1, h2⟩ := st
    obtain ⟨l1, l2, q1, q2, b1, b2, hend⟩ := hg
    obtain ⟨s1, r1, p1, _⟩ := srcX I q1
    have c1 := r1.length
    obtain ⟨s2, r2, p2, _⟩ := srcX I q2
    have c2 := r2.length
    have hh : X.A.in1.handled = none := I.ok.hd hc
    refine wpAny_pyNext_zipD2_end S (drawsX t1 hh i1 a1 n1 s1.toArray) (drawsX t2 hh i2 a2 n2 s2.toArray) hz hTI hTO ⟨h1, p1⟩ ⟨h2, p2⟩ (by simp only [List.size_toArray]; omega) (by simp only [List.size_toArray]; omega) ?_ fun h' tk hk => ⟨rfl, I.turnedL (t' := tk) (ch := [z, TI, TO, i1, i2]) (fun c o hb q =>
      hk c o (fun q' => hb (by simp [q'])) (fun q' => hb (by simp [q'])) (fun q' => hb (by simp [q'])) (fun q' => hb (by simp [q'])) q) hf⟩
    simp only [List.size_toArray]
    omega
  self := fun A i s Q E st h => wpAny_pyIter_zip st.1 h
def iX2 (K : PySem.W.Frag) (ta : TA) : TI := fun σ H R => ta σ H fun vs H1 => ∃ (t1 t2 : Bool) (a1 a2 : Addr) (l1 l2 : List V), vs = [.ref a1, .ref a2] ∧ SqX K t1 H1 a1 l1 ∧ SqX K t2 H1 a2 l2 ∧ R (Itx2 K t1 t2 a1 a2) H1
theorem pi_x2 {X : Cx} {e1 e2 : Expr} {ta : TA} {p pos tpos : Pos} {elts : List Expr} {kk : Nat} (hg : Gl X "zip") (hm : X.mg "zip" = none) (ha : PA X [e1, e2] ta)
    (hs : starEach [e1, e2] X.env = (false, eval e1 X.env) :: starEach [e2] X.env := by rfl) (hpl : (backTo pos (starEach [e2] X.env)).any (·.1) = false := by rfl) :
    PI X (.Tuple elts kk tpos) (.Call (.Name "zip" p) [e1, e2] [] pos) (iX2 X.K ta) := by
  refine ⟨fun pins s σ H R I h => ?_⟩
  refine Call_ (ld_blt I hg hm PyProof.Rows.boot_zip (PyProof.Rows.callWith_type1 (thn (ha.run pos pins s σ H _ I h) fun us s1 ⟨vs, H1, I1, r1, q1⟩ => ?_) hs hpl))
  obtain ⟨t1, t2, a1, a2, l1, l2, ex, q1, q2, q⟩ := q1
  subst ex
  obtain ⟨u1, u2, rfl, ru1, ru2⟩ := valsX2 r1
  obtain rfl : u1 = Value.ref a1 := ru1
  obtain rfl : u2 = Value.ref a2 := ru2
  obtain ⟨ss1, r1, p1, lt1⟩ := srcX I1 q1
  obtain ⟨o1, B1, b1⟩ := beginsX t1 a1 ss1.toArray
  obtain ⟨ss2, r2, p2, lt2⟩ := srcX I1 q2
  obtain ⟨o2, B2, b2⟩ := beginsX t2 a2 ss2.toArray
  refine zip_begins2 B1 B2 p1 p2 fun h' hz hTI hTO g1 g2 hsz hk => wpAny_pyIter_zip hz ?_
  have I2 : Inv X pins σ H1 { s1 with heap := h' } := I1.kept (t' := s1.toks) hk
  refine ⟨s1.heap.objs.size + 4, [s1.heap.objs.size + 4, s1.heap.objs.size + 2, s1.heap.objs.size + 3, s1.heap.objs.size, s1.heap.objs.size + 1], _, _, H1, rfl, I2, turn_x2 (sepX2 _ _ _ lt1 lt2) (farX _ _ 0 lt1) (farX _ _ 1 lt2), ⟨hz, hTI, ⟨_, _, hTO⟩, b1 _ _ g1, b2 _ _ g2⟩, fun c hcm => ?_, q⟩
  have hle : s1.heap.objs.size ≤ c := lo5 hcm
  exact I1.fpOk hle (I1.hok.fresh hle)
theorem walk_x2 {K : PySem.W.Frag} {t1 t2 : Bool} {a1 a2 : Addr} {l1 l2 : List V} {n : Nat} (hn : n = min l1.length l2.length) : Walk (Itx2 K t1 t2 a1 a2) n (fun H => SqX K t1 H a1 l1 ∧ SqX K t2 H a2 l2) (fun i H v H' => ∃ T x1 x2, v = .ref T ∧ H T = none ∧ H' = upd H T (.tup [x1, x2]) ∧ l1[i]? = some x1 ∧ l2[i]? = some x2) := by
  subst hn
  refine ⟨fun i _ hi q => ?_, fun _ q => ⟨l1, l2, q.1, q.2, ?_⟩, fun i H v H' _ q y => ?_⟩
  · have h1 : i < l1.length := by omega
    have h2 : i < l2.length := by omega
    exact ⟨l1, l2, l1[i], l2[i], q.1, q.2, by simp [h1], by simp [h2]⟩
  · omega
  · obtain ⟨T, x1, x2, e1, e2, e3, f1, f2⟩ := y
    exact ⟨T, x1, x2, e1, e2, e3, f1 _ q.1, f2 _ q.2⟩

/-! ### 3 -/
def Itx3 (K : PySem.W.Frag) (t1 t2 t3 : Bool) (a1 a2 a3 : Addr) : It :=
  ⟨fun i H => ∃ (l1 l2 l3 : List V) (x1 x2 x3 : V), SqX K t1 H a1 l1 ∧ SqX K t2 H a2 l2 ∧ SqX K t3 H a3 l3 ∧ l1[i]? = some x1 ∧ l2[i]? = some x2 ∧ l3[i]? = some x3,
    fun i H v H' => ∃ T x1 x2 x3, v = .ref T ∧ H T = none ∧ H' = upd H T (.tup [x1, x2, x3]) ∧ (∀ l, SqX K t1 H a1 l → l[i]? = some x1) ∧ (∀ l, SqX K t2 H a2 l → l[i]? = some x2) ∧ (∀ l, SqX K t3 H a3 l → l[i]? = some x3),
    fun i H => ∃ l1 l2 l3 : List V, SqX K t1 H a1 l1 ∧ SqX K t2 H a2 l2 ∧ SqX K t3 H a3 l3 ∧ i ≤ l1.length ∧ i ≤ l2.length ∧ i ≤ l3.length ∧ (i = l1.length ∨ i = l2.length ∨ i = l3.length)⟩
theorem turn_x3 {P : Program} {w : World} {K : PySem.W.Frag} {elts : List Expr} {kk : Nat} {tpos : Pos} {t1 t2 t3 : Bool} {a1 a2 a3 z TI TO i1 i2 i3 : Addr} (S : ZipSep3 z TI TO i1 i2 i3 [i1, a1] [i2, a2] [i3, a3]) (n1 : a1 ≠ i1) (n2 : a2 ≠ i2) (n3 : a3 ≠ i3) :
    Turn P w K (.Tuple elts kk tpos) (Itx3 K t1 t2 t3 a1 a2 a3) [z, TI, TO, i1, i2, i3] z (fun i h => IsZip h z TI TO .none ∧ IsTupOf3 h TI (.ref i1) (.ref i2) (.ref i3) ∧ (∃ y1 y2 y3, IsTupOf3 h TO y1 y2 y3) ∧ ItX t1 h i1 a1 i ∧ ItX t2 h i2 a2 i ∧ ItX t3 h i3 a3 i) where
  mem := by simp
  obj := fun i h st c hc => by
    obtain ⟨hz, hTI, ⟨y1, y2, y3, hTO⟩, h1, h2, h3⟩ := st
    have e' : c = z ∨ c = TI ∨ c = TO ∨ c = i1 ∨ c = i2 ∨ c = i3 := by simpa using hc
    rcases e' with q | q | q | q | q | q
    · rw [q]; exact ⟨_, hz, fun v q => nomatch q⟩
    · rw [q]; exact ⟨_, hTI, fun v q => nomatch q⟩
    · rw [q]; exact ⟨_, hTO, fun v q => nomatch q⟩
    · rw [q]; exact h1.obj
    · rw [q]; exact h2.obj
    · rw [q]; exact h3.obj
  keep := fun i h h' st k => by
    obtain ⟨hz, hTI, ⟨y1, y2, y3, hTO⟩, h1, h2, h3⟩ := st
    exact ⟨k z (by simp) _ hz, k TI (by simp) _ hTI, ⟨y1, y2, y3, k TO (by simp) _ hTO⟩, h1.over fun o q => k i1 (by simp) o q, h2.over fun o q => k i2 (by simp) o q, h3.over fun o q => k i3 (by simp) o q⟩
  item := by
    intro X hP hw hK hc i pins s σ H E I hf st hg
    subst hP hw hK
    obtain ⟨hz, hTI, ⟨y1, y2, y3, hTO⟩, h1, h2, h3⟩ := st
    obtain ⟨l1, l2, l3, x1, x2, x3, q1, q2, q3, g1, g2, g3⟩ := hg
    obtain ⟨s1, r1, p1, _⟩ := srcX I q1
    obtain ⟨u1, w1, v1⟩ := r1.get g1
    obtain ⟨s2, r2, p2, _⟩ := srcX I q2
    obtain ⟨u2, w2, v2⟩ := r2.get g2
    obtain ⟨s3, r3, p3, _⟩ := srcX I q3
    obtain ⟨u3, w3, v3⟩ := r3.get g3
    have hh : X.A.in1.handled = none := I.ok.hd hc
    have hzl : z < s.heap.objs.size := Heap.lt_size hz
    refine wpAny_pyNext_zipD3_item S (drawsX t1 hh i1 a1 n1 s1.toArray) (drawsX t2 hh i2 a2 n2 s2.toArray) (drawsX t3 hh i3 a3 n3 s3.toArray) hz hTI hTO ⟨h1, p1⟩ ⟨h2, p2⟩ ⟨h3, p3⟩ (by have := (List.getElem?_eq_some_iff.mp w1).1; simpa using this) (by have := (List.getElem?_eq_some_iff.mp w2).1; simpa using this) (by have := (List.getElem?_eq_some_iff.mp w3).1; simpa using this) fun z1 z2 z3 h' tk e1 e2 e3 z' TO' k1 k2 k3 hT hsz hk => ?_
    obtain rfl : z1 = u1 := by
      rw [List.getElem?_toArray] at e1
      exact Option.some.inj (e1.symm.trans w1)
    obtain rfl : z2 = u2 := by
      rw [List.getElem?_toArray] at e2
      exact Option.some.inj (e2.symm.trans w2)
    obtain rfl : z3 = u3 := by
      rw [List.getElem?_toArray] at e3
      exact Option.some.inj (e3.symm.trans w3)
    refine ⟨_, rfl, wpAny_letOwnedTupleGo_zip (s := { s with heap := h', toks := tk }) z' fun h'' z'' sb => ?_⟩
    have hT2 : h''.get? s.heap.objs.size = some { cls := .type "tuple", data := .seq #[z1, z2, z3] } := (sb.2 _ (Nat.ne_of_gt hzl)).trans hT
    have new : ObjOk X.prog X.w (upd H s.heap.objs.size (.tup [x1, x2, x3])) h'' s.heap.objs.size (.tup [x1, x2, x3]) :=
      ⟨by show 3 ≤ sizeLine; decide, [z1, z2, z3], .cons v1 (.cons v2 (.cons v3 .nil)), ⟨_, hT2, rfl, _, rfl⟩⟩
    have I1 : Inv X pins σ (upd H s.heap.objs.size (.tup [x1, x2, x3])) { s with heap := h'', toks := tk } :=
      I.turnedNew (t' := tk) (ch := [z, TI, TO, i1, i2, i3]) (fun c o hb q => (sb.2 c (fun q' => hb (by simp [q']))).trans (hk c o (fun q' => hb (by simp [q'])) (fun q' => hb (by simp [q'])) (fun q' => hb (by simp [q'])) (fun q' => hb (by simp [q'])) (fun q' => hb (by simp [q'])) q)) hf (Nat.le_refl _) new
    refine ⟨.ref s.heap.objs.size, _, I1, rfl, ⟨_, x1, x2, x3, rfl, I.hok.fresh (Nat.le_refl _), rfl, fun l hl => by rw [injX I hl q1]; exact g1, fun l hl => by rw [injX I hl q2]; exact g2, fun l hl => by rw [injX I hl q3]; exact g3⟩, ⟨z'', ?_, ⟨z1, z2, z3, ?_⟩, ?_, ?_, ?_⟩, fun c hcm => ?_⟩
    · exact (sb.2 _ S.TIz).trans (hk _ _ S.TIz S.TITO S.TIi1 S.TIi2 S.TIi3 hTI)
    · exact (sb.2 _ S.TOz).trans TO'
    · exact k1.1.over fun o q => (sb.2 _ (Ne.symm S.zi1)).trans q
    · exact k2.1.over fun o q => (sb.2 _ (Ne.symm S.zi2)).trans q
    · exact k3.1.over fun o q => (sb.2 _ (Ne.symm S.zi3)).trans q
    · have hlt : c < s.heap.objs.size := by
        have e' : c = z ∨ c = TI ∨ c = TO ∨ c = i1 ∨ c = i2 ∨ c = i3 := by simpa using hcm
        rcases e' with q | q | q | q | q | q
        · rw [q]; exact hzl
        · rw [q]; exact Heap.lt_size hTI
        · rw [q]; exact Heap.lt_size hTO
        · rw [q]; obtain ⟨_, e1, _⟩ := h1.obj; exact Heap.lt_size e1
        · rw [q]; obtain ⟨_, e1, _⟩ := h2.obj; exact Heap.lt_size e1
        · rw [q]; obtain ⟨_, e1, _⟩ := h3.obj; exact Heap.lt_size e1
      rw [upd_ne (Nat.ne_of_lt hlt)]
      exact (hf c hcm).1
  done := by
    intro X hP hw hK hc i pins s σ H E I hf st hg
    subst hP hw hK
    obtain ⟨hz, hTI, ⟨y1, y2, y3, hTO⟩, h1, h2, h3⟩ := st
    obtain ⟨l1, l2, l3, q1, q2, q3, b1, b2, b3, hend⟩ := hg
    obtain ⟨s1, r1, p1, _⟩ := srcX I q1
    have c1 := r1.length
    obtain ⟨s2, r2, p2, _⟩ := srcX I q2
    have c2 := r2.length
    obtain ⟨s3, r3, p3, _⟩ := srcX I q3
    have c3 := r3.length
    have hh : X.A.in1.handled = none := I.ok.hd hc
    refine wpAny_pyNext_zipD3_end S (drawsX t1 hh i1 a1 n1 s1.toArray) (drawsX t2 hh i2 a2 n2 s2.toArray) (drawsX t3 hh i3 a3 n3 s3.toArray) hz hTI hTO ⟨h1, p1⟩ ⟨h2, p2⟩ ⟨h3, p3⟩ (by simp only [List.size_toArray]; omega) (by simp only [List.size_toArray]; omega) (by simp only [List.size_toArray]; omega) ?_ fun h' tk hk => ⟨rfl, I.turnedL (t' := tk) (ch := [z, TI, TO, i1, i2, i3]) (fun c o hb q =>
      hk c o (fun q' => hb (by simp [q'])) (fun q' => hb (by simp [q'])) (fun q' => hb (by simp [q'])) (fun q' => hb (by simp [q'])) (fun q' => hb (by simp [q'])) q) hf⟩
    simp only [List.size_toArray]
    omega
  self := fun A i s Q E st h => wpAny_pyIter_zip st.1 h
def iX3 (K : PySem.W.Frag) (ta : TA) : TI := fun σ H R => ta σ H fun vs H1 => ∃ (t1 t2 t3 : Bool) (a1 a2 a3 : Addr) (l1 l2 l3 : List V), vs = [.ref a1, .ref a2, .ref a3] ∧ SqX K t1 H1 a1 l1 ∧ SqX K t2 H1 a2 l2 ∧ SqX K t3 H1 a3 l3 ∧ R (Itx3 K t1 t2 t3 a1 a2 a3) H1
theorem pi_x3 {X : Cx} {e1 e2 e3 : Expr} {ta : TA} {p pos tpos : Pos} {elts : List Expr} {kk : Nat} (hg : Gl X "zip") (hm : X.mg "zip" = none) (ha : PA X [e1, e2, e3] ta)
    (hs : starEach [e1, e2, e3] X.env = (false, eval e1 X.env) :: starEach [e2, e3] X.env := by rfl) (hpl : (backTo pos (starEach [e2, e3] X.env)).any (·.1) = false := by rfl) :
    PI X (.Tuple elts kk tpos) (.Call (.Name "zip" p) [e1, e2, e3] [] pos) (iX3 X.K ta) := by
  refine ⟨fun pins s σ H R I h => ?_⟩
  refine Call_ (ld_blt I hg hm PyProof.Rows.boot_zip (PyProof.Rows.callWith_type1 (thn (ha.run pos pins s σ H _ I h) fun us s1 ⟨vs, H1, I1, r1, q1⟩ => ?_) hs hpl))
  obtain ⟨t1, t2, t3, a1, a2, a3, l1, l2, l3, ex, q1, q2, q3, q⟩ := q1
  subst ex
  obtain ⟨u1, u2, u3, rfl, ru1, ru2, ru3⟩ := valsX3 r1
  obtain rfl : u1 = Value.ref a1 := ru1
  obtain rfl : u2 = Value.ref a2 := ru2
  obtain rfl : u3 = Value.ref a3 := ru3
  obtain ⟨ss1, r1, p1, lt1⟩ := srcX I1 q1
  obtain ⟨o1, B1, b1⟩ := beginsX t1 a1 ss1.toArray
  obtain ⟨ss2, r2, p2, lt2⟩ := srcX I1 q2
  obtain ⟨o2, B2, b2⟩ := beginsX t2 a2 ss2.toArray
  obtain ⟨ss3, r3, p3, lt3⟩ := srcX I1 q3
  obtain ⟨o3, B3, b3⟩ := beginsX t3 a3 ss3.toArray
  refine zip_begins3 B1 B2 B3 p1 p2 p3 fun h' hz hTI hTO g1 g2 g3 hsz hk => wpAny_pyIter_zip hz ?_
  have I2 : Inv X pins σ H1 { s1 with heap := h' } := I1.kept (t' := s1.toks) hk
  refine ⟨s1.heap.objs.size + 5, [s1.heap.objs.size + 5, s1.heap.objs.size + 3, s1.heap.objs.size + 4, s1.heap.objs.size, s1.heap.objs.size + 1, s1.heap.objs.size + 2], _, _, H1, rfl, I2, turn_x3 (sepX3 _ _ _ _ lt1 lt2 lt3) (farX _ _ 0 lt1) (farX _ _ 1 lt2) (farX _ _ 2 lt3), ⟨hz, hTI, ⟨_, _, _, hTO⟩, b1 _ _ g1, b2 _ _ g2, b3 _ _ g3⟩, fun c hcm => ?_, q⟩
  have hle : s1.heap.objs.size ≤ c := lo6 hcm
  exact I1.fpOk hle (I1.hok.fresh hle)
theorem walk_x3 {K : PySem.W.Frag} {t1 t2 t3 : Bool} {a1 a2 a3 : Addr} {l1 l2 l3 : List V} {n : Nat} (hn : n = min (min l1.length l2.length) l3.length) : Walk (Itx3 K t1 t2 t3 a1 a2 a3) n (fun H => SqX K t1 H a1 l1 ∧ SqX K t2 H a2 l2 ∧ SqX K t3 H a3 l3) (fun i H v H' => ∃ T x1 x2 x3, v = .ref T ∧ H T = none ∧ H' = upd H T (.tup [x1, x2, x3]) ∧ l1[i]? = some x1 ∧ l2[i]? = some x2 ∧ l3[i]? = some x3) := by
  subst hn
  refine ⟨fun i _ hi q => ?_, fun _ q => ⟨l1, l2, l3, q.1, q.2.1, q.2.2, ?_⟩, fun i H v H' _ q y => ?_⟩
  · have h1 : i < l1.length := by omega
    have h2 : i < l2.length := by omega
    have h3 : i < l3.length := by omega
    exact ⟨l1, l2, l3, l1[i], l2[i], l3[i], q.1, q.2.1, q.2.2, by simp [h1], by simp [h2], by simp [h3]⟩
  · omega
  · obtain ⟨T, x1, x2, x3, e1, e2, e3, f1, f2, f3⟩ := y
    exact ⟨T, x1, x2, x3, e1, e2, e3, f1 _ q.1, f2 _ q.2.1, f3 _ q.2.2⟩
theorem tup_in {X : Cx} {K : PySem.W.Frag} {es : List Expr} {k : Nat} {t : TGs} {n : Nat} {pos : Pos} (hK : X.K = K) (hc : X.calm = true) (h : PGs X es t) (k1 : (assignEach es X.env).length = n := by rfl) (k2 : (assignEach es X.env).findIdx? (·.1) = none := by rfl) : PG X (.Tuple es k pos) (gTup K n t) := by
  subst hK
  exact pg_tup hc h k1 k2
end Tw

/-! Powers, sums of powers, common divisors, inverses. -/
namespace Tw
open PySem PySem.Spec PyProof.Rows L2
def geo (t : Int) : Nat → Int
  | 0 => 0
  | n + 1 => geo t n + t ^ n
theorem geo_add (t : Int) (a : Nat) : ∀ b, geo t (a + b) = geo t a + t ^ a * geo t b
  | 0 => by show geo t a = geo t a + t ^ a * 0; grind
  | b + 1 => by
    show geo t (a + b) + t ^ (a + b) = geo t a + t ^ a * (geo t b + t ^ b)
    rw [geo_add t a b, Int.pow_add]
    grind
theorem geo_mul (t : Int) : ∀ n, (t - 1) * geo t n = t ^ n - 1
  | 0 => by rw [Int.pow_zero]; show (t - 1) * 0 = 1 - 1; grind
  | n + 1 => by
    have ih := geo_mul t n
    show (t - 1) * (geo t n + t ^ n) = t ^ (n + 1) - 1
    rw [Int.pow_succ]
    grind
/-- what a rule of n steps is -/
def rsT (t m : Int) (n : Nat) : Int := t ^ n % m
def rsP (t p m : Int) (n : Nat) : Int := p * geo t n % m
theorem rs_T (t m : Int) (a c : Nat) : rsT t m c * rsT t m a % m = rsT t m (a + c) := by
  unfold rsT
  rw [← Int.mul_emod, Int.pow_add, Int.mul_comm]
theorem rs_P (t p m : Int) (a c : Nat) : (rsT t m c * rsP t p m a + rsP t p m c) % m = rsP t p m (a + c) := by
  unfold rsT rsP
  rw [Int.add_emod, Int.emod_emod, ← Int.mul_emod, ← Int.add_emod, Nat.add_comm a c, geo_add]
  congr 1
  grind
theorem rs_rng {t p m : Int} (h : 0 < m) (n : Nat) : (0 ≤ rsT t m n ∧ rsT t m n < m) ∧ 0 ≤ rsP t p m n ∧ rsP t p m n < m := ⟨mod_bd _ h, mod_bd _ h⟩
theorem Rule.rs {t p m : Int} (R : Rule t p m) (n : Nat) : Rule (rsT t m n) (rsP t p m n) m :=
  have h := rs_rng (t := t) (p := p) (show 0 < m by have := R.b1; omega) n
  ⟨R.b1, R.b2, h.1.1, h.1.2, h.2.1, h.2.2⟩
/-- ahead -/
def ahd (t p m : Int) (n : Nat) (x : Int) : Int := (t ^ n * x + p * geo t n) % m
theorem stp_rs (t p m : Int) (n : Nat) (x : Int) : stp (rsT t m n) (rsP t p m n) m x = ahd t p m n x := by
  unfold stp rsT rsP ahd
  rw [Int.add_emod_emod, Int.add_emod, Int.mul_emod, Int.emod_emod, ← Int.mul_emod, ← Int.add_emod]
theorem ahd_rng {t p m : Int} (h : 0 < m) (n : Nat) (x : Int) : 0 ≤ ahd t p m n x ∧ ahd t p m n x < m := mod_bd _ h
/-- the number from which n steps lead to s -/
def Back (t p m : Int) (n : Nat) (s y : Int) : Prop := 0 ≤ y ∧ y < m ∧ ahd t p m n y = s
theorem cop_pow {t m : Int} (h : Int.gcd t m = 1) (n : Nat) : Nat.Coprime m.natAbs (t ^ n).natAbs := by
  rw [Int.natAbs_pow]
  exact (Nat.Coprime.pow_left n (show Nat.Coprime t.natAbs m.natAbs from h)).symm
theorem Back.uniq {t p m : Int} {n : Nat} {s y z : Int} (hc : Int.gcd t m = 1) (h : Back t p m n s y) (k : Back t p m n s z) : y = z := by
  obtain ⟨y0, y1, ye⟩ := h
  obtain ⟨z0, z1, ze⟩ := k
  have e : (t ^ n * y + p * geo t n) % m = (t ^ n * z + p * geo t n) % m := ye.trans ze.symm
  have e2 := Int.emod_eq_emod_iff_emod_sub_eq_zero.mp e
  have e3 : m ∣ t ^ n * (y - z) := by
    have := Int.dvd_of_emod_eq_zero e2
    rw [show t ^ n * (y - z) = t ^ n * y + p * geo t n - (t ^ n * z + p * geo t n) by grind]
    exact this
  have e4 : m.natAbs ∣ (y - z).natAbs := by
    have h1 := Int.natAbs_dvd_natAbs.mpr e3
    rw [Int.natAbs_mul] at h1
    exact Nat.Coprime.dvd_of_dvd_mul_left (cop_pow hc n) h1
  have e5 : (y - z).natAbs = 0 := Nat.eq_zero_of_dvd_of_lt e4 (by omega)
  omega
/-- undone by the inverse -/
theorem back_of {t p m u : Int} (m0 : 0 < m) (hu : t * u % m = 1 % m) (s : Int) (s0 : 0 ≤ s) (s1 : s < m) : ∀ n : Nat, Back t p m n s (ahd u (-u * p % m) m n s) := by
  intro n
  refine ⟨(ahd_rng m0 n s).1, (ahd_rng m0 n s).2, ?_⟩
  obtain ⟨e, he⟩ := Int.dvd_of_emod_eq_zero (Int.emod_eq_emod_iff_emod_sub_eq_zero.mp hu)
  have htu : t * u = m * e + 1 := by omega
  have key : ∀ k : Nat, m ∣ t ^ k * (u ^ k * s + (-u * p) * geo u k) + p * geo t k - s := by
    intro k
    induction k with
    | zero =>
      rw [Int.pow_zero, Int.pow_zero]
      show m ∣ 1 * (1 * s + (-u * p) * 0) + p * 0 - s
      exact ⟨0, by grind⟩
    | succ k ih =>
      obtain ⟨c, hc⟩ := ih
      have g1 : geo u (k + 1) = 1 + u * geo u k := by
        rw [Nat.add_comm, geo_add]
        show 0 + u ^ 0 + u ^ 1 * geo u k = _
        rw [Int.pow_zero, Int.pow_one]
        grind
      have g2 : geo t (k + 1) = geo t k + t ^ k := rfl
      rw [g1, g2, Int.pow_succ, Int.pow_succ]
      generalize u ^ k = U at *
      generalize t ^ k = T at *
      generalize geo u k = G at *
      generalize geo t k = J at *
      refine ⟨c + T * e * (U * s + (-u * p) * G - p), ?_⟩
      have e1 : T * t * (U * u * s + -u * p * (1 + u * G)) + p * (J + T) - s = T * ((t * u) * (U * s + -u * p * G - p) + p) + p * J - s := by grind
      rw [e1, htu]
      have e2 : T * ((m * e + 1) * (U * s + -u * p * G - p) + p) + p * J - s = (T * (U * s + -u * p * G) + p * J - s) + m * (T * e * (U * s + -u * p * G - p)) := by grind
      rw [e2, hc]
      grind
  obtain ⟨c, hc⟩ := key n
  have hy : ∃ b, ahd u (-u * p % m) m n s = (u ^ n * s + (-u * p) * geo u n) + m * b := by
    unfold ahd
    have a1 := Int.mul_ediv_add_emod (u ^ n * s + (-u * p % m) * geo u n) m
    have a2 := Int.mul_ediv_add_emod (-u * p) m
    refine ⟨-((u ^ n * s + (-u * p % m) * geo u n) / m) - (-u * p / m) * geo u n, ?_⟩
    generalize (u ^ n * s + (-u * p % m) * geo u n) / m = d1 at *
    generalize (u ^ n * s + (-u * p % m) * geo u n) % m = d2 at *
    generalize -u * p / m = d3 at *
    generalize -u * p % m = d4 at *
    grind
  obtain ⟨b, hb⟩ := hy
  rw [hb]
  show (t ^ n * (u ^ n * s + -u * p * geo u n + m * b) + p * geo t n) % m = s
  have e3 : t ^ n * (u ^ n * s + -u * p * geo u n + m * b) + p * geo t n = s + m * (c + t ^ n * b) := by grind
  rw [e3, Int.add_mul_emod_self_left]
  exact Int.emod_eq_of_lt s0 s1
/-! ### common divisors -/
theorem gcd_step {x y : Int} (h0 : 0 ≤ x) (h1 : 0 < y) : Int.gcd y (x % y) = Int.gcd x y := by
  obtain ⟨a, rfl⟩ := Int.eq_ofNat_of_zero_le h0
  obtain ⟨b, rfl⟩ := Int.eq_ofNat_of_zero_le (Int.le_of_lt h1)
  show Nat.gcd b ((a : Int) % (b : Int)).natAbs = Nat.gcd a b
  rw [← Int.natCast_emod, Int.natAbs_natCast, Nat.gcd_comm b, ← Nat.gcd_rec, Nat.gcd_comm]
/-! ### powers by squaring -/
theorem sq_pow (t : Int) (n : Nat) : t ^ n = (if n % 2 = 1 then t else 1) * (t * t) ^ (n / 2) := by
  have e : n = 2 * (n / 2) + n % 2 := by omega
  have h2 : (t * t) ^ (n / 2) = t ^ (2 * (n / 2)) := by rw [Int.pow_mul, show t ^ 2 = t * t by rw [Int.pow_succ, Int.pow_one]]
  rw [h2]
  by_cases h : n % 2 = 1
  · rw [if_pos h]
    conv => lhs; rw [e, h, Int.pow_succ]
    exact Int.mul_comm _ _
  · rw [if_neg h, Int.one_mul]
    conv => lhs; rw [e, show n % 2 = 0 by omega, Nat.add_zero]
/-- the law's sum of powers, by a power of the bound times one less -/
theorem shares {t m P : Int} {n : Nat} (m0 : 0 < m) (t2 : 2 ≤ t) (hP : P = t ^ n % (m * (t - 1))) : P % m = t ^ n % m ∧ (P - 1) / (t - 1) % m = geo t n % m := by
  have d1 := Int.mul_ediv_add_emod (t ^ n) (m * (t - 1))
  rw [← hP] at d1
  have g := geo_mul t n
  constructor
  · rw [hP, Int.emod_emod_of_dvd _ ⟨t - 1, rfl⟩]
  · have e : P - 1 = (t - 1) * (geo t n - m * (t ^ n / (m * (t - 1)))) := by
      generalize t ^ n / (m * (t - 1)) = q at *
      grind
    rw [e, Int.mul_ediv_cancel_left _ (by omega)]
    rw [Int.sub_emod, Int.mul_emod_right, Int.sub_zero, Int.emod_emod]
theorem pow_zero_pos {n : Nat} (h : 0 < n) : (0 : Int) ^ n = 0 := by
  obtain ⟨k, rfl⟩ : ∃ k, n = k + 1 := ⟨n - 1, by omega⟩
  rw [Int.pow_succ, Int.mul_zero]
theorem geo_zero : ∀ {n : Nat}, 0 < n → geo 0 n = 1
  | 1, _ => by show (0 : Int) + 0 ^ 0 = 1; rw [Int.pow_zero]; rfl
  | n + 2, _ => by
    show geo 0 (n + 1) + 0 ^ (n + 1) = 1
    rw [geo_zero (Nat.succ_pos n), pow_zero_pos (Nat.succ_pos n)]
    rfl
theorem geo_one : ∀ n : Nat, geo 1 n = n
  | 0 => rfl
  | n + 1 => by
    show geo 1 n + 1 ^ n = ((n + 1 : Nat) : Int)
    rw [geo_one n, Int.one_pow]
    rfl
/-! ### promises -/
def pGcd : V → V → Hp → VK → XK → Prop := fun a b H Q _ => ∃ x y : Int, a = .int x ∧ b = .int y ∧ 0 ≤ x ∧ 0 ≤ y ∧ Q (.int (Int.gcd x y : Nat)) H
def pInv : V → V → Hp → VK → XK → Prop := fun a b H Q _ => ∃ x m : Int, a = .int x ∧ b = .int m ∧ 0 ≤ x ∧ 0 < m ∧ m ≤ 1000000000000 ∧ Int.gcd x m = 1 ∧ ∀ H' v, Same H H' → 0 ≤ v → v < m → x * v % m = 1 % m → Q (.int v) H'
def pChained (K : PySem.W.Frag) : V → V → Hp → VK → XK → Prop := fun a b H Q _ => ∃ (r1 r2 : Addr) (t1 p1 t2 p2 m : Int), a = .ref r1 ∧ b = .ref r2 ∧ SqT K H r1 [.int t1, .int p1, .int m] ∧ SqT K H r2 [.int t2, .int p2, .int m] ∧ Rule t1 p1 m ∧ Rule t2 p2 m ∧
  ∀ H' q, Same H H' → H q = none → H' q = some (.tup [.int (t2 * t1 % m), .int ((t2 * p1 + p2) % m), .int m]) → Q (.ref q) H'
def pRos (K : PySem.W.Frag) : V → V → Hp → VK → XK → Prop := fun a b H Q _ => ∃ (r : Addr) (t p m n : Int), a = .ref r ∧ b = .int n ∧ SqT K H r [.int t, .int p, .int m] ∧ Rule t p m ∧ 0 ≤ n ∧
  ∀ H' q, Same H H' → H' q = some (.tup [.int (rsT t m n.toNat), .int (rsP t p m n.toNat), .int m]) → Q (.ref q) H'
def pRback (K : PySem.W.Frag) (CB : Addr) : V → Hp → VK → XK → Prop := fun a H Q E => ∃ (r : Addr) (t p m : Int), a = .ref r ∧ SqT K H r [.int t, .int p, .int m] ∧ Rule t p m ∧
  (Int.gcd t m = 1 → ∀ H' q u, Same H H' → H q = none → 0 ≤ u → u < m → t * u % m = 1 % m → H' q = some (.tup [.int u, .int (-u * p % m), .int m]) → Q (.ref q) H') ∧ (Int.gcd t m ≠ 1 → E (.ref CB) none H)
def pJump (K : PySem.W.Frag) (CN CB : Addr) : V → V → V → Hp → VK → XK → Prop := fun a b c H Q E => ∃ (r : Addr) (t p m s n : Int), a = .ref r ∧ b = .int s ∧ c = .int n ∧ SqT K H r [.int t, .int p, .int m] ∧ Rule t p m ∧
  (¬ (0 ≤ s ∧ s < m) → Bad CN s H E) ∧ (0 ≤ s ∧ s < m → 0 ≤ n → ∀ H', Same H H' → Q (.int (ahd t p m n.toNat s)) H') ∧
  (0 ≤ s ∧ s < m → n < 0 → Int.gcd t m = 1 → ∀ H' y, Same H H' → Back t p m (-n).toNat s y → Q (.int y) H') ∧ (0 ≤ s ∧ s < m → n < 0 → Int.gcd t m ≠ 1 → E (.ref CB) none H)
end Tw
namespace Tw
open PySem PySem.Spec PyProof.Rows L2
/-- an error without a number: its kind's name alone -/
def pKindO (C : Addr) (nm : Str) : V → Hp → VK → XK → Prop := fun a H Q _ => ∃ e : Addr, a = .ref e ∧ H e = some (exv e (.ref C) none) ∧ ∀ H' p, Same H H' → H p = none → H' p = some (.tup [.str nm]) → Q (.ref p) H'
def pPow : V → V → V → Hp → VK → XK → Prop := fun a b c H Q _ => ∃ x n m : Int, a = .int x ∧ b = .int n ∧ c = .int m ∧ 0 ≤ x ∧ x ≤ 1000000000000 ∧ 0 ≤ n ∧ 0 < m ∧ m ≤ 1000000000000000000000000 ∧ Q (.int (x ^ n.toNat % m)) H
def pShares (K : PySem.W.Frag) : V → V → Hp → VK → XK → Prop := fun a b H Q _ => ∃ (r : Addr) (t p m n : Int), a = .ref r ∧ b = .int n ∧ SqT K H r [.int t, .int p, .int m] ∧ Rule t p m ∧ 0 ≤ n ∧
  ∀ H' q, Same H H' → H q = none → H' q = some (.lst [.int (t ^ n.toNat % m), .int (geo t n.toNat % m)]) → Q (.ref q) H'
def pAhead (K : PySem.W.Frag) : V → V → V → Hp → VK → XK → Prop := fun a b c H Q _ => ∃ (r : Addr) (t p m s n : Int), a = .ref r ∧ b = .int s ∧ c = .int n ∧ SqT K H r [.int t, .int p, .int m] ∧ Rule t p m ∧ 0 ≤ s ∧ s < m ∧ 0 ≤ n ∧ ∀ H', Same H H' → Q (.int (ahd t p m n.toNat s)) H'
theorem ahd_shares (t p m : Int) (n : Nat) (s : Int) : (t ^ n % m * s + geo t n % m * p) % m = ahd t p m n s := by
  unfold ahd
  rw [Int.add_emod, Int.mul_emod, Int.emod_emod, ← Int.mul_emod, Int.mul_emod (geo t n % m), Int.emod_emod, ← Int.mul_emod, ← Int.add_emod, Int.mul_comm (geo t n)]
def pStepsL : V → Hp → VK → XK → Prop := fun a H Q _ => ∃ (d : Addr) (n : Nat), a = .ref d ∧ Deck H d n ∧ n + 5 ≤ 100000000 ∧ ∀ (H' : Hp) (v : Int), But d H H' → Deck H' d (n + 5) → Q (.int v) H'
def pTold3 (K : PySem.W.Frag) : V → V → V → Hp → VK → XK → Prop := fun a b c H Q _ => ∃ (r : Addr) (t p m s n : Int), a = .ref r ∧ b = .int s ∧ c = .int n ∧ SqT K H r [.int t, .int p, .int m] ∧ Rule t p m ∧
  (¬ (0 ≤ s ∧ s < m) → ∀ H' q, Same H H' → H q = none → H' q = some (.tup [.str "number", .int s]) → Q (.ref q) H') ∧
  (0 ≤ s ∧ s < m → 0 ≤ n → ∀ H' q, Same H H' → H q = none → H' q = some (.lst [.int (ahd t p m n.toNat s)]) → Q (.ref q) H') ∧
  (0 ≤ s ∧ s < m → n < 0 → Int.gcd t m = 1 → ∀ H' q y, Same H H' → H q = none → Back t p m (-n).toNat s y → H' q = some (.lst [.int y]) → Q (.ref q) H') ∧
  (0 ≤ s ∧ s < m → n < 0 → Int.gcd t m ≠ 1 → ∀ H' q, Same H H' → H q = none → H' q = some (.tup [.str "back"]) → Q (.ref q) H')
def pRight3 (K : PySem.W.Frag) : V → V → V → Hp → VK → XK → Prop := fun a b c H Q _ => ∃ (r : Addr) (t p m s n : Int), a = .ref r ∧ b = .int s ∧ c = .int n ∧ SqT K H r [.int t, .int p, .int m] ∧ Rule t p m ∧ 0 ≤ s ∧ s < m ∧ ∀ H', Same H H' → Q (.bl true) H'
theorem shp_s {x : Str} (h : PyData.canLay0 (.str x) = true) : SeqAt.shaped (.tuple [.str x]) = true := by
  show (PyData.canLay0 (.tuple [.str x]) && decide (PyData.depth (.tuple [.str x]) ≤ 64)) = true
  simp [PyData.canLay0, PyData.canLayAll0] at h ⊢
  exact ⟨h, of_decide_eq_true rfl⟩
theorem shp_back : SeqAt.shaped (.tuple [.str "back"]) = true := shp_s (by decide +kernel)
end Tw
namespace Tw
theorem pow_em (a m : Int) : ∀ k : Nat, (a % m) ^ k % m = a ^ k % m
  | 0 => by rw [Int.pow_zero, Int.pow_zero]
  | k + 1 => by rw [Int.pow_succ, Int.pow_succ, Int.mul_emod, pow_em a m k, Int.emod_emod, ← Int.mul_emod]
end Tw

/-! What stands before a number. -/
namespace Tw
open PySem PySem.Spec PyProof.Rows L2
/-- the least number whose next one is n -/
def Bef (t p m n x : Int) : Prop := 0 ≤ x ∧ x < m / (Int.gcd t m : Nat) ∧ (t * x + p) % m = n
theorem gcd_pos {t m : Int} (m0 : 0 < m) : 0 < (Int.gcd t m : Int) := by
  have : Int.gcd t m ≠ 0 := fun z => by
    have := (Int.gcd_eq_zero_iff.mp z).2
    omega
  omega
theorem gcd_parts {t m : Int} (m0 : 0 < m) : t = (Int.gcd t m : Nat) * (t / (Int.gcd t m : Nat)) ∧ m = (Int.gcd t m : Nat) * (m / (Int.gcd t m : Nat)) ∧ 0 < m / (Int.gcd t m : Nat) ∧ Int.gcd (t / (Int.gcd t m : Nat)) (m / (Int.gcd t m : Nat)) = 1 := by
  have g0 := gcd_pos (t := t) m0
  have d1 : ((Int.gcd t m : Nat) : Int) ∣ t := Int.gcd_dvd_left ..
  have d2 : ((Int.gcd t m : Nat) : Int) ∣ m := Int.gcd_dvd_right ..
  have e1 := Int.mul_ediv_cancel' d1
  have e2 := Int.mul_ediv_cancel' d2
  refine ⟨e1.symm, e2.symm, Int.ediv_pos_of_pos_of_dvd m0 (by omega) d2, ?_⟩
  have := Int.gcd_ediv_gcd_ediv_gcd (i := t) (j := m) (by omega)
  exact this
theorem bef_uniq {t p m n x y : Int} (m0 : 0 < m) (h : Bef t p m n x) (k : Bef t p m n y) : x = y := by
  obtain ⟨x0, x1, xe⟩ := h
  obtain ⟨y0, y1, ye⟩ := k
  obtain ⟨p1, p2, p3, p4⟩ := gcd_parts (t := t) m0
  have g0 := gcd_pos (t := t) m0
  generalize eg : ((Int.gcd t m : Nat) : Int) = g at *
  generalize et : t / g = t' at *
  generalize em : m / g = m' at *
  have e := Int.dvd_of_emod_eq_zero (Int.emod_eq_emod_iff_emod_sub_eq_zero.mp (xe.trans ye.symm))
  have e2 : g * m' ∣ g * (t' * (x - y)) := by
    rw [← p2, show g * (t' * (x - y)) = t * x + p - (t * y + p) by rw [p1]; grind]
    exact e
  have e3 : m' ∣ t' * (x - y) := Int.dvd_of_mul_dvd_mul_left (by omega) e2
  have e4 : m'.natAbs ∣ (x - y).natAbs := by
    have h1 := Int.natAbs_dvd_natAbs.mpr e3
    rw [Int.natAbs_mul] at h1
    exact Nat.Coprime.dvd_of_dvd_mul_left (show Nat.Coprime m'.natAbs t'.natAbs from Nat.Coprime.symm p4) h1
  have e5 : (x - y).natAbs = 0 := Nat.eq_zero_of_dvd_of_lt e4 (by omega)
  omega
/-- made by the inverse -/
theorem bef_of {t p m n v : Int} (m0 : 0 < m) (n0 : 0 ≤ n) (n1 : n < m) (hd : (n - p) % (Int.gcd t m : Nat) = 0) (hv : (t / (Int.gcd t m : Nat)) * v % (m / (Int.gcd t m : Nat)) = 1 % (m / (Int.gcd t m : Nat))) :
    Bef t p m n ((n - p) / (Int.gcd t m : Nat) * v % (m / (Int.gcd t m : Nat))) := by
  obtain ⟨p1, p2, p3, p4⟩ := gcd_parts (t := t) m0
  have g0 := gcd_pos (t := t) m0
  have c1 := Int.mul_ediv_cancel' (Int.dvd_of_emod_eq_zero hd)
  unfold Bef
  generalize ((Int.gcd t m : Nat) : Int) = g at *
  generalize t / g = t' at *
  generalize m / g = m' at *
  generalize (n - p) / g = c at *
  have xr := mod_bd (c * v) p3
  refine ⟨xr.1, xr.2, ?_⟩
  obtain ⟨e, he⟩ := Int.dvd_of_emod_eq_zero (Int.emod_eq_emod_iff_emod_sub_eq_zero.mp hv)
  have a1 := Int.mul_ediv_add_emod (c * v) m'
  generalize c * v / m' = d1 at *
  generalize c * v % m' = x at *
  have e1 : t * x + p = n + m * (c * e - t' * d1) := by
    have h1 : t' * v = 1 + m' * e := by omega
    have h2 : x = c * v - m' * d1 := by omega
    rw [h2, p1, p2]
    have h3 : g * t' * (c * v - m' * d1) + p = g * c * (t' * v) - g * t' * m' * d1 + p := by grind
    rw [h3, h1]
    have h4 : g * c * (1 + m' * e) - g * t' * m' * d1 + p = g * c + p + g * m' * (c * e - t' * d1) := by grind
    rw [h4, c1]
    omega
  rw [e1, Int.add_mul_emod_self_left]
  exact Int.emod_eq_of_lt n0 n1
theorem no_bef {t p m n x : Int} (m0 : 0 < m) (hd : (n - p) % (Int.gcd t m : Nat) ≠ 0) : (t * x + p - n) % m ≠ 0 := by
  intro h
  apply hd
  obtain ⟨c, hc⟩ := Int.dvd_of_emod_eq_zero h
  obtain ⟨p1, p2, p3, p4⟩ := gcd_parts (t := t) m0
  refine Int.emod_eq_zero_of_dvd ⟨t / (Int.gcd t m : Nat) * x - m / (Int.gcd t m : Nat) * c, ?_⟩
  generalize ((Int.gcd t m : Nat) : Int) = g at *
  generalize t / g = t' at *
  generalize m / g = m' at *
  subst p1
  grind
/-- which numbers lead to n -/
theorem bef_iff {t p m n x y : Int} (m0 : 0 < m) (n0 : 0 ≤ n) (n1 : n < m) (hx : Bef t p m n x) : (t * y + p - n) % m = 0 ↔ y % (m / (Int.gcd t m : Nat)) = x := by
  obtain ⟨x0, x1, xe⟩ := hx
  obtain ⟨p1, p2, p3, p4⟩ := gcd_parts (t := t) m0
  have g0 := gcd_pos (t := t) m0
  generalize eg : ((Int.gcd t m : Nat) : Int) = g at *
  generalize et : t / g = t' at *
  generalize em : m / g = m' at *
  have xe2 : m ∣ t * x + p - n := Int.dvd_of_emod_eq_zero (by
    rw [← Int.emod_eq_emod_iff_emod_sub_eq_zero, xe]
    exact (Int.emod_eq_of_lt n0 n1).symm)
  constructor
  · intro h
    have e := Int.dvd_sub (Int.dvd_of_emod_eq_zero h) xe2
    have e2 : g * m' ∣ g * (t' * (y - x)) := by
      rw [← p2, show g * (t' * (y - x)) = t * y + p - n - (t * x + p - n) by rw [p1]; grind]
      exact e
    have e3 : m' ∣ t' * (y - x) := Int.dvd_of_mul_dvd_mul_left (by omega) e2
    have e4 : m' ∣ y - x := by
      refine Int.natAbs_dvd_natAbs.mp ?_
      have h1 := Int.natAbs_dvd_natAbs.mpr e3
      rw [Int.natAbs_mul] at h1
      exact Nat.Coprime.dvd_of_dvd_mul_left (show Nat.Coprime m'.natAbs t'.natAbs from Nat.Coprime.symm p4) h1
    have e5 : y % m' = x % m' := Int.emod_eq_emod_iff_emod_sub_eq_zero.mpr (Int.emod_eq_zero_of_dvd e4)
    rw [e5]
    exact Int.emod_eq_of_lt x0 x1
  · intro h
    have a1 := Int.mul_ediv_add_emod y m'
    rw [h] at a1
    obtain ⟨c, hc⟩ := xe2
    refine Int.emod_eq_zero_of_dvd ⟨c + t' * (y / m'), ?_⟩
    generalize y / m' = d at *
    subst a1
    have : t * (m' * d + x) + p - n = (t * x + p - n) + t * m' * d := by grind
    rw [this, hc]
    conv => lhs; rhs; rw [p1]
    have h2 : g * t' * m' * d = (g * m') * (t' * d) := by grind
    rw [h2, ← p2]
    grind
/-- the numbers of a range with a given rest -/
theorem filter_eq_range (x : Nat) : ∀ m : Nat, (List.range m).filter (fun i => decide (i = x)) = if x < m then [x] else []
  | 0 => by simp
  | m + 1 => by
    rw [List.range_succ, List.filter_append, filter_eq_range x m]
    by_cases h : x < m
    · rw [if_pos h, if_pos (by omega)]
      simp
      omega
    · rw [if_neg h]
      by_cases h2 : m = x
      · subst h2
        simp
      · rw [if_neg (by omega)]
        simp [h2]
theorem filter_rest {m x : Nat} (hx : x < m) : ∀ g : Nat, (List.range (g * m)).filter (fun i => decide (i % m = x)) = (List.range g).map fun k => k * m + x
  | 0 => by simp
  | g + 1 => by
    rw [Nat.add_mul, Nat.one_mul, List.range_add, List.filter_append, filter_rest hx g, List.range_succ, List.map_append]
    congr 1
    rw [List.filter_map]
    have : ((fun i => decide (i % m = x)) ∘ fun j => g * m + j) = fun j => decide (j % m = x) := by
      funext j
      simp [Nat.mul_add_mod_self_right]
    rw [this]
    have h2 : (List.range m).filter (fun j => decide (j % m = x)) = (List.range m).filter (fun j => decide (j = x)) := by
      apply List.filter_congr
      intro j hj
      rw [Nat.mod_eq_of_lt (List.mem_range.mp hj)]
    rw [h2, filter_eq_range, if_pos hx]
    rfl
def pBefore (K : PySem.W.Frag) (CN : Addr) : V → V → Hp → VK → XK → Prop := fun a b H Q E => ∃ (r : Addr) (t p m n : Int), a = .ref r ∧ b = .int n ∧ SqT K H r [.int t, .int p, .int m] ∧ Rule t p m ∧ (¬ (0 ≤ n ∧ n < m) → Bad CN n H E) ∧
  (0 ≤ n ∧ n < m → (n - p) % (Int.gcd t m : Nat) ≠ 0 → ∀ H' q, Same H H' → H q = none → H' q = some (.tup [.int 0, .non]) → Q (.ref q) H') ∧
  (0 ≤ n ∧ n < m → (n - p) % (Int.gcd t m : Nat) = 0 → ∀ H' q x, Same H H' → H q = none → Bef t p m n x → H' q = some (.tup [.int (Int.gcd t m : Nat), .int x]) → Q (.ref q) H')
end Tw

/-! Seeds: what is drawn of them; a bound, a rule, a row. -/
namespace Tw
open PySem PySem.Spec PyProof.Rows L2

/-- a seed: what is left of a great cell, whether it is one, how many were drawn, the mixed cell -/
def Seed (H : Hp) (d : Addr) (n : Nat) : Prop := ∃ r f k c : Int, H d = some (.lst [.int r, .int f, .int k, .int c]) ∧ 0 ≤ r ∧ 0 ≤ k ∧ k ≤ (n : Int) ∧ 0 ≤ c ∧ c < 2000000000
theorem Seed.mono {H : Hp} {d : Addr} {n m : Nat} (h : Seed H d n) (l : n ≤ m) : Seed H d m := by
  obtain ⟨r, f, k, c, a1, a2, a3, a4, a5⟩ := h
  exact ⟨r, f, k, c, a1, a2, a3, by omega, a5⟩
theorem Seed.same {H H' : Hp} {d : Addr} {n : Nat} (h : Seed H d n) (s : Same H H') : Seed H' d n := by
  obtain ⟨r, f, k, c, a1, a2⟩ := h
  exact ⟨r, f, k, c, s _ _ a1, a2⟩
theorem Seed.ne {H : Hp} {d p : Addr} {n : Nat} (h : Seed H d n) (e : H p = none) : p ≠ d := by
  obtain ⟨r, f, k, c, a1, _⟩ := h
  intro z
  rw [z, a1] at e
  cases e
theorem Seed.ne_tup {H : Hp} {d p : Addr} {n : Nat} {xs : List V} (h : Seed H d n) (e : H p = some (.tup xs)) : p ≠ d := by
  obtain ⟨r, f, k, c, a1, _⟩ := h
  intro z
  rw [z, a1] at e
  cases e
theorem Seed.fresh {H H' : Hp} {d p : Addr} {n m : Nat} (h' : Seed H' d m) (b : But d H H') (e : H' p = none) : H p = none := b.free (h'.ne e) e
theorem Seed.nohd {H : Hp} {d : Addr} {n : Nat} (h : Seed H d n) : ∀ c, ¬ At H d c := fun c hc => by
  obtain ⟨r, f, k, cc, a1, _⟩ := h
  obtain ⟨_, e⟩ := hc
  rw [a1] at e
  cases e
/-- a list of ours beside the seed is changed -/
theorem Seed.mut {H : Hp} {d L : Addr} {n : Nat} {o : HO} (h : Seed H d n) (ne : L ≠ d) : Seed (upd H L o) d n := by
  obtain ⟨r, f, k, c, a1, a2⟩ := h
  exact ⟨r, f, k, c, by rw [upd_ne (Ne.symm ne)]; exact a1, a2⟩
/-- a new list at L, changed: the old heap stands -/
theorem but_new {H H' : Hp} {d L : Addr} {o : HO} (b : But d H H') (e : H L = none) : But d H (upd H' L o) := but_mut2 b e
def pFolded (K : PySem.W.Frag) : V → Hp → VK → XK → Prop := fun a H Q _ => ∃ (s : Addr) (xs : List Int), a = .ref s ∧ SqL K H s (xs.map V.int) ∧ xs.length ≤ 63 ∧ ∀ v : Int, Q (.int v) H
def pSeed : V → Hp → VK → XK → Prop := fun a H Q _ => ∃ c : Int, a = .int c ∧ ∀ H' d, Same H H' → H d = none → Seed H' d 0 → Q (.ref d) H'
/-- a draw below m -/
def pDrw (c : Nat) : V → V → Hp → VK → XK → Prop := fun a b H Q _ => ∃ (d : Addr) (n : Nat) (m : Int), a = .ref d ∧ b = .int m ∧ 0 < m ∧ m < 1000000000000000000000000000000000000000000 ∧ Seed H d n ∧ n + c ≤ 100000000 ∧
  ∀ (H' : Hp) (v : Int), But d H H' → Seed H' d (n + c) → 0 ≤ v → v < m → Q (.int v) H'
def pBnd : V → V → Hp → VK → XK → Prop := fun a b H Q _ => ∃ (d : Addr) (n : Nat) (k : Int), a = .ref d ∧ b = .int k ∧ 0 < k ∧ k ≤ 6 ∧ Seed H d n ∧ n + 3 ≤ 100000000 ∧
  ∀ (H' : Hp) (v : Int), But d H H' → Seed H' d (n + 3) → 1 ≤ v → v ≤ 1000000000000 → (k ≤ 3 → v ≤ 2000) → Q (.int v) H'
def pAnyRule : V → V → Hp → VK → XK → Prop := fun a b H Q _ => ∃ (d : Addr) (n : Nat) (m : Int), a = .ref d ∧ b = .int m ∧ 1 ≤ m ∧ m ≤ 1000000000000 ∧ Seed H d n ∧ n + 7 ≤ 100000000 ∧
  ∀ (H' : Hp) (r : Addr) (t p : Int), But d H H' → Seed H' d (n + 7) → H r = none → H' r = some (.tup [.int t, .int p, .int m]) → Rule t p m → Q (.ref r) H'
def pWalkF (K : PySem.W.Frag) : V → V → V → Hp → VK → XK → Prop := fun a b c H Q _ => ∃ (r : Addr) (t p m s n : Int), a = .ref r ∧ b = .int s ∧ c = .int n ∧ SqT K H r [.int t, .int p, .int m] ∧ Rule t p m ∧ 0 ≤ s ∧ s < m ∧ 1 ≤ n ∧ n ≤ 1000 ∧
  ∀ H' l, Same H H' → H l = none → H' l = some (.lst ((orb (stp t p m) n.toNat s).map V.int)) → Q (.ref l) H'
def pRowS : V → V → V → Hp → VK → XK → Prop := fun a b c H Q _ => ∃ (d : Addr) (n : Nat) (m z : Int), a = .ref d ∧ b = .int m ∧ c = .int z ∧ 1 ≤ m ∧ m ≤ 1000000000000 ∧ 6 ≤ z ∧ z ≤ 60 ∧ Seed H d n ∧ n + 1000 ≤ 100000000 ∧
  ∀ (H' : Hp) (r : Addr) (xs : List Int), But d H H' → Seed H' d (n + 1000) → H r = none → H' r = some (.tup (xs.map V.int)) → 2 ≤ xs.length → (xs.length : Int) ≤ z → Rng m xs → Q (.ref r) H'
/-- found is due, both whole -/
def pIsWh : V → V → Hp → VK → XK → Prop := fun a b H Q _ => ∃ x y : Int, a = .int x ∧ b = .int y ∧ Q (.bl (decide (x = y))) H
theorem orb_rng {t p m s : Int} (m0 : 0 < m) (h0 : 0 ≤ s) (h1 : s < m) (n : Nat) : Rng m (orb (stp t p m) n s) := fun x hx => by
  obtain ⟨i, _, rfl⟩ := List.mem_map.mp hx
  exact itr_rng m0 ⟨h0, h1⟩ i
/-- len in a comprehension -/
def rLenS (K : PySem.W.Frag) : List V → Hp → VK → Prop := fun xs H Q => ∃ (p : Addr) (ys : List V), xs = [V.ref p] ∧ (SqL K H p ys ∨ SqT K H p ys) ∧ Q (V.int ys.length) H
theorem call_lenS {X : Cx} : CallR X (.builtin "len") (rLenS X.K) := call_len_seq
theorem yesX {σ : L2.St} {H : Hp} {A B : Hp → Prop} (h : A H) : tYes σ H fun b H3 => if b = true then A H3 else B H3 := by
  show if true = true then A H else B H
  rw [if_pos rfl]
  exact h
theorem ixN_nat {n j : Nat} (h : j < n) : ixN n (j : Int) = some j := by
  unfold ixN
  rw [if_pos (by omega), if_pos (by omega)]
  simp
end Tw

/-! Slices of tuples; gaps; what divides all. -/
namespace Tw
open PySem PySem.Spec PyProof.Rows L2

theorem upd_swap {H : Hp} {a b : Addr} {o u : HO} (h : a ≠ b) : upd (upd H a o) b u = upd (upd H b u) a o := by
  funext c
  by_cases e1 : c = b
  · rw [e1, upd_same, upd_ne (Ne.symm h), upd_same]
  · by_cases e2 : c = a
    · rw [e2, upd_ne h, upd_same, upd_same]
    · rw [upd_ne e1, upd_ne e2, upd_ne e2, upd_ne e1]
theorem cut_all {xs : List V} {lo hi : Option Int} (h : HT.sIx xs.length 0 lo = 0 ∧ HT.sIx xs.length xs.length hi = xs.length) : cutV xs lo hi = xs := by
  unfold cutV
  rw [h.1, h.2]
  simp
theorem cut_drop (xs : List V) (n : Nat) : cutV xs (some (n : Int)) none = xs.drop n := by
  unfold cutV
  rw [HT.sIx_none, HT.sIx_nat]
  by_cases h : n ≤ xs.length
  · rw [Nat.min_eq_left h, List.take_of_length_le (by rw [List.length_drop]; omega)]
  · rw [Nat.min_eq_right (by omega), List.drop_of_length_le (Nat.le_refl _), List.drop_of_length_le (by omega), List.take_nil]
theorem cut_takeI (xs : List Int) (n : Nat) : cutV (xs.map V.int) none (some (n : Int)) = (xs.take n).map V.int := by
  rw [cut_take, List.map_take]
theorem cut_dropI (xs : List Int) (n : Nat) : cutV (xs.map V.int) (some (n : Int)) none = (xs.drop n).map V.int := by
  rw [cut_drop, List.map_drop]
/-- a slice of a tuple: the tuple itself, or a new one -/
def rSlX (K : PySem.W.Frag) : V → Option Int → Option Int → Hp → VK → Prop := fun x lo hi H Q => ∃ (a : Addr) (xs : List V), x = .ref a ∧ SqT K H a xs ∧ ∀ H' p, Same H H' → SqT K H' p (cutV xs lo hi) → Q (.ref p) H'
theorem sl_tupX {X : Cx} : SlR X (rSlX X.K) := by
  intro pins s σ H x v vl vu lo hi sl Q I rx hsl pl pu h
  obtain ⟨a, xs, rfl, hs, q⟩ := h
  refine sl_tupA pins s σ H _ v vl vu lo hi sl Q I rx hsl pl pu ⟨a, xs, rfl, hs, fun e => ?_, fun e p np => ?_⟩
  · refine q H a (fun _ _ z => z) ?_
    rw [cut_all e]
    exact hs
  · exact q _ p (same_new np) (SqT.of upd_same)
theorem But.tupS {K : PySem.W.Frag} {H H' : Hp} {d r : Addr} {n : Nat} {xs : List V} (b : But d H H') (D : Seed H d n) (h : SqT K H r xs) : SqT K H' r xs := by
  obtain ⟨rr, f, k, c, a1, _⟩ := D
  rcases h with (h | ⟨o, h⟩) | h
  · refine .inl (.inl (b _ _ (fun z => ?_) h))
    rw [z, a1] at h
    cases h
  · refine .inl (.inr ⟨o, b _ _ (fun z => ?_) h⟩)
    rw [z, a1] at h
    cases h
  · exact .inr h
/-! ### gaps -/
def gat (xs : List Int) (i : Nat) : Int := xs.getD (i + 1) 0 - xs.getD i 0
def gp (xs : List Int) : List Int := (List.range (xs.length - 1)).map (gat xs)
theorem gp_len (xs : List Int) : (gp xs).length = xs.length - 1 := by unfold gp; rw [List.length_map, List.length_range]
theorem gp_get {xs : List Int} {i : Nat} (h : i < xs.length - 1) : (gp xs)[i]? = some (gat xs i) := by
  unfold gp
  rw [List.getElem?_map, List.getElem?_range h]
  rfl
theorem get_D {xs : List Int} {i : Nat} {v : Int} (h : xs[i]? = some v) : xs.getD i 0 = v := by
  rw [List.getD_eq_getElem?_getD, h]
  rfl
theorem vget {xs : List Int} {i : Nat} {v : V} (h : (xs.map V.int)[i]? = some v) : v = .int (xs.getD i 0) ∧ i < xs.length := by
  rw [List.getElem?_map] at h
  cases e : xs[i]? with
  | none => rw [e] at h; cases h
  | some x =>
    rw [e] at h
    cases h
    exact ⟨by rw [get_D e], (List.getElem?_eq_some_iff.mp e).1⟩
theorem vgetd {xs : List Int} {i k : Nat} {v : V} (h : ((xs.drop k).map V.int)[i]? = some v) : v = .int (xs.getD (k + i) 0) ∧ k + i < xs.length := by
  rw [List.getElem?_map, List.getElem?_drop] at h
  cases e : xs[k + i]? with
  | none => rw [e] at h; cases h
  | some x =>
    rw [e] at h
    cases h
    exact ⟨by rw [get_D e], (List.getElem?_eq_some_iff.mp e).1⟩
theorem gp_D {xs : List Int} {i : Nat} (h : i < xs.length - 1) : (gp xs).getD i 0 = gat xs i := get_D (gp_get h)
def pGapsOf (K : PySem.W.Frag) : V → Hp → VK → XK → Prop := fun a H Q _ => ∃ (r : Addr) (xs : List Int), a = .ref r ∧ SqT K H r (xs.map V.int) ∧ xs.length ≤ 1000 ∧ ∀ H' l, Same H H' → H l = none → H' l = some (.lst ((gp xs).map V.int)) → Q (.ref l) H'
theorem getD_rng {m : Int} {xs : List Int} (m0 : 0 < m) (h : Rng m xs) (i : Nat) : 0 ≤ xs.getD i 0 ∧ xs.getD i 0 < m := by
  by_cases l : i < xs.length
  · rw [get_D (List.getElem?_eq_getElem l)]
    exact h _ (List.getElem_mem l)
  · rw [List.getD_eq_getElem?_getD, List.getElem?_eq_none (by omega)]
    exact ⟨Int.le_refl _, m0⟩
theorem gat_rng {m : Int} {xs : List Int} (m0 : 0 < m) (h : Rng m xs) (i : Nat) : -m < gat xs i ∧ gat xs i < m := by
  have a := getD_rng m0 h i
  have b := getD_rng m0 h (i + 1)
  unfold gat
  omega
/-! ### what divides all -/
def trm (xs : List Int) (i : Nat) : Int := gat xs i * gat xs (i + 2) - gat xs (i + 1) * gat xs (i + 1)
def dvA (xs : List Int) : Nat → Nat
  | 0 => 0
  | k + 1 => Nat.gcd (dvA xs k) (trm xs k).natAbs
theorem dvA_dvd (xs : List Int) (e : Nat) : ∀ k, e ∣ dvA xs k ↔ ∀ i, i < k → e ∣ (trm xs i).natAbs
  | 0 => ⟨fun _ i hi => absurd hi (Nat.not_lt_zero _), fun _ => Nat.dvd_zero e⟩
  | k + 1 => by
    show e ∣ Nat.gcd (dvA xs k) (trm xs k).natAbs ↔ _
    rw [Nat.dvd_gcd_iff, dvA_dvd xs e k]
    constructor
    · rintro ⟨a, b⟩ i hi
      by_cases e1 : i = k
      · rw [e1]; exact b
      · exact a i (by omega)
    · intro h
      exact ⟨fun i hi => h i (by omega), h k (by omega)⟩
/-- all of a list are divided by just what divides n -/
def Dv (ys : List Int) (n : Nat) : Prop := ∀ e : Nat, (∀ y ∈ ys, e ∣ y.natAbs) ↔ e ∣ n
theorem Dv.nil {n : Nat} (h : Dv [] n) : n = 0 := by
  have := (h 0).mp (fun y hy => by cases hy)
  exact Nat.eq_zero_of_zero_dvd this
theorem Dv.one {y : Int} {n : Nat} (h : Dv [y] n) : y.natAbs = n := by
  refine Nat.dvd_antisymm ?_ ?_
  · exact (h _).mp (fun z hz => by rw [List.mem_singleton.mp hz]; exact Nat.dvd_refl _)
  · exact (h n).mpr (Nat.dvd_refl _) y (List.mem_singleton.mpr rfl)
theorem Dv.pos {ys : List Int} {n : Nat} (h : Dv ys n) : Dv (ys.filter (fun y => decide (y > 0))) n ∨ ∃ y ∈ ys, y < 0 := by
  by_cases hy : ∃ y ∈ ys, y < 0
  · exact .inr hy
  · refine .inl fun e => ?_
    rw [← h e]
    constructor
    · intro q y m
      by_cases l : y > 0
      · exact q y (List.mem_filter.mpr ⟨m, by simp [l]⟩)
      · have : y = 0 := by
          have h1 : ¬ y < 0 := fun z => hy ⟨y, m, z⟩
          omega
        rw [this]
        exact Nat.dvd_zero e
    · intro q y m
      exact q y (List.mem_filter.mp m).1
theorem natAbs_mod_dvd {x l : Int} {e : Nat} (hl : e ∣ l.natAbs) : e ∣ (x % l).natAbs ↔ e ∣ x.natAbs := by
  rw [← Int.ofNat_dvd_left, ← Int.ofNat_dvd_left]
  rw [← Int.ofNat_dvd_left] at hl
  have hd : (e : Int) ∣ l * (x / l) := Int.dvd_trans hl (Int.dvd_mul_right _ _)
  have ex := Int.mul_ediv_add_emod x l
  constructor
  · intro h
    rw [← ex]
    exact Int.dvd_add hd h
  · intro h
    have : x % l = x - l * (x / l) := by omega
    rw [this]
    exact Int.dvd_sub h hd
theorem Dv.step {ys zs : List Int} {l : Int} {n : Nat} (h : Dv ys n) (hl : l ∈ ys) (hz : ∀ z, z ∈ zs ↔ z = l ∨ ∃ y ∈ ys, y % l > 0 ∧ z = y % l) (l0 : 0 < l) : Dv zs n := fun e => by
  rw [← h e]
  constructor
  · intro q y m
    have ql := q l ((hz l).mpr (.inl rfl))
    by_cases p : y % l > 0
    · exact (natAbs_mod_dvd ql).mp (q _ ((hz _).mpr (.inr ⟨y, m, p, rfl⟩)))
    · have z : y % l = 0 := by
        have := Int.emod_nonneg y (show l ≠ 0 by omega)
        omega
      refine (natAbs_mod_dvd ql).mp ?_
      rw [z]
      exact Nat.dvd_zero e
  · intro q z m
    rcases (hz z).mp m with rfl | ⟨y, my, p, rfl⟩
    · exact q _ hl
    · exact (natAbs_mod_dvd (q _ hl)).mpr (q _ my)
def pDivAll (K : PySem.W.Frag) : V → Hp → VK → XK → Prop := fun a H Q _ => ∃ (r : Addr) (xs : List Int), a = .ref r ∧ SqT K H r (xs.map V.int) ∧ xs.length ≤ 1000 ∧ Rng 1000000000000000 xs ∧ ∀ H', Same H H' → Q (.int (dvA xs (xs.length - 3) : Nat)) H'
end Tw
namespace Tw
open PySem PySem.Spec PyProof.Rows L2
theorem atD {xs : List Int} {z : Int} {n : Nat} (e : z = (n : Int)) (h : n < xs.length) : atI (xs.map V.int) z = some (.int (xs.getD n 0)) := by
  subst e
  refine atI_nat ?_
  rw [List.getElem?_map, List.getElem?_eq_getElem h, get_D (List.getElem?_eq_getElem h)]
  rfl
def ab (t : Int) : Int := if t < 0 then -t else t
theorem ab_nat (t : Int) : (ab t).natAbs = t.natAbs := by
  unfold ab
  split
  · rw [Int.natAbs_neg]
  · rfl
theorem ab_nonneg (t : Int) : 0 ≤ ab t := by
  unfold ab
  split <;> omega
theorem dv_all (xs : List Int) (k : Nat) : Dv ((List.range k).map fun i => ab (trm xs i)) (dvA xs k) := fun e => by
  rw [dvA_dvd]
  constructor
  · intro h i hi
    have := h _ (List.mem_map.mpr ⟨i, List.mem_range.mpr hi, rfl⟩)
    rw [ab_nat] at this
    exact this
  · intro h y hy
    obtain ⟨i, hi, rfl⟩ := List.mem_map.mp hy
    rw [ab_nat]
    exact h i (List.mem_range.mp hi)
theorem same_butNew {Hb Ha H' : Hp} {d : Addr} (s : Same Hb Ha) (e : Hb d = none) (b : But d Ha H') : Same Hb H' := fun c o h => b c o (ne_of_none h e) (s c o h)
def pDueA (K : PySem.W.Frag) : V → Hp → VK → XK → Prop := fun a H Q _ => ∃ (r : Addr) (xs : List Int), a = .ref r ∧ SqT K H r (xs.map V.int) ∧ xs.length ≤ 60 ∧ Rng 1000000000000000 xs ∧ ∀ H', Same H H' → Q (.int (dvA xs (xs.length - 3) : Nat)) H'
def pAnyRow (K : PySem.W.Frag) : V → Hp → VK → XK → Prop := fun a H Q _ => ∃ (d : Addr) (n : Nat), a = .ref d ∧ Seed H d n ∧ n + 2000 ≤ 100000000 ∧
  ∀ (H' : Hp) (r : Addr) (xs : List Int), But d H H' → Seed H' d (n + 2000) → SqT K H' r (xs.map V.int) → 2 ≤ xs.length → xs.length ≤ 60 → Rng 1000000000000000 xs → Q (.ref r) H'
theorem Rng.mono {m n : Int} {xs : List Int} (h : Rng m xs) (l : m ≤ n) : Rng n xs := fun x hx => ⟨(h x hx).1, Int.lt_of_lt_of_le (h x hx).2 l⟩
theorem Rng.take {m : Int} {xs : List Int} (h : Rng m xs) (k : Nat) : Rng m (xs.take k) := fun x hx => h x (List.mem_of_mem_take hx)
theorem flat_rep (x : Int) : ∀ k : Nat, (List.replicate k [V.int x]).flatten = (List.replicate k x).map V.int
  | 0 => rfl
  | k + 1 => by
    rw [List.replicate_succ, List.flatten_cons, flat_rep x k, List.replicate_succ, List.map_cons]
    rfl
end Tw
namespace Tw
open PySem PySem.Spec PyProof.Rows L2
theorem flt_in {α : Type} {p : α → Bool} {l : List α} {a : α} (h : p a = true) : (l ++ [a]).filter p = l.filter p ++ [a] := by
  rw [List.filter_append, List.filter_cons_of_pos h]
  rfl
theorem flt_out {α : Type} {p : α → Bool} {l : List α} {a : α} (h : ¬ p a = true) : (l ++ [a]).filter p = l.filter p := by
  rw [List.filter_append, List.filter_cons_of_neg h]
  simp
theorem take_snoc {xs : List Int} {i : Nat} (li : i < xs.length) : xs.take (i + 1) = xs.take i ++ [xs.getD i 0] := by
  rw [List.take_succ, List.getElem?_eq_getElem li, get_D (List.getElem?_eq_getElem li)]
  rfl
end Tw
namespace Tw
open PySem PySem.Spec PyProof.Rows L2
theorem nd_len : ∀ (l m : List Int), l.Nodup → (∀ x ∈ l, x ∈ m) → l.length ≤ m.length
  | [], _, _, _ => Nat.zero_le _
  | a :: r, m, nd, h => by
    rw [List.nodup_cons] at nd
    have ha := h a List.mem_cons_self
    have ih := nd_len r (m.erase a) nd.2 (fun x hx => (List.mem_erase_of_ne (fun (e : x = a) => nd.1 (e ▸ hx))).mpr (h x (List.mem_cons_of_mem _ hx)))
    rw [List.length_erase_of_mem ha] at ih
    have : 0 < m.length := List.length_pos_of_mem ha
    simp only [List.length_cons]
    omega
theorem lt_nodup {l : List Int} (h : l.Pairwise (· < ·)) : l.Nodup := by
  rw [List.nodup_iff_pairwise_ne]
  exact h.imp fun {a b} z => by omega
theorem mods_len {zs : List Int} {l : Int} (h : l ∈ zs) : ((zs.map (· % l)).filter (fun y => decide (y > 0))).length < zs.length := by
  have := (List.length_filter_lt_length_iff_exists (l := zs.map (· % l)) (p := fun y : Int => decide (y > 0))).mpr ⟨l % l, List.mem_map.mpr ⟨l, h, rfl⟩, by rw [Int.emod_self]; simp⟩
  rw [List.length_map] at this
  exact this
end Tw

/-! The times that fit: residue classes, narrowed one condition after the other. -/
namespace Tw
open PySem PySem.Spec PyProof.Rows L2

/-- times t fits the first k conditions of a row -/
def FitU (m : Int) (xs : List Int) (k : Nat) (t : Int) : Prop := ∀ i, i < k → m ∣ t * gat xs i - gat xs (i + 1)
/-- o tells all that fit -/
def FitR (m : Int) (xs : List Int) (k : Nat) : Option (Int × Int) → Prop
  | some (l, s) => 0 < s ∧ s ∣ m ∧ 0 ≤ l ∧ l < s ∧ ∀ t, FitU m xs k t ↔ s ∣ t - l
  | none => ∀ t, ¬ FitU m xs k t
theorem fitU_zero (m : Int) (xs : List Int) (t : Int) : FitU m xs 0 t := fun i hi => absurd hi (Nat.not_lt_zero _)
theorem fitU_succ {m : Int} {xs : List Int} {k : Nat} {t : Int} : FitU m xs (k + 1) t ↔ FitU m xs k t ∧ m ∣ t * gat xs k - gat xs (k + 1) := by
  constructor
  · intro h
    exact ⟨fun i hi => h i (by omega), h k (by omega)⟩
  · rintro ⟨a, b⟩ i hi
    by_cases e : i = k
    · rw [e]; exact b
    · exact a i (by omega)
theorem fitU_mono {m : Int} {xs : List Int} {j k : Nat} {t : Int} (h : FitU m xs k t) (l : j ≤ k) : FitU m xs j t := fun i hi => h i (by omega)
theorem fitR_zero {m : Int} (m0 : 0 < m) (xs : List Int) : FitR m xs 0 (some (0, 1)) := ⟨by decide, Int.one_dvd m, by decide, by decide, fun t => ⟨fun _ => Int.one_dvd _, fun _ => fitU_zero m xs t⟩⟩
theorem FitR.uniq {m : Int} {xs : List Int} {k : Nat} {a b : Option (Int × Int)} (ha : FitR m xs k a) (hb : FitR m xs k b) : a = b := by
  cases a with
  | none =>
    cases b with
    | none => rfl
    | some p =>
      obtain ⟨l, s⟩ := p
      obtain ⟨_, _, _, _, h⟩ := hb
      exact absurd ((h l).mpr (by rw [Int.sub_self]; exact Int.dvd_zero s)) (ha l)
  | some p =>
    obtain ⟨l, s⟩ := p
    obtain ⟨s0, _, l0, l1, h⟩ := ha
    cases b with
    | none => exact absurd ((h l).mpr (by rw [Int.sub_self]; exact Int.dvd_zero s)) (hb l)
    | some q =>
      obtain ⟨l', s'⟩ := q
      obtain ⟨s0', _, l0', l1', h'⟩ := hb
      have e1 : s' ∣ l - l' := (h' l).mp ((h l).mpr (by rw [Int.sub_self]; exact Int.dvd_zero s))
      have e2 : s' ∣ l + s - l' := (h' (l + s)).mp ((h _).mpr (by rw [show l + s - l = s by omega]; exact Int.dvd_refl s))
      have e3 : s ∣ l' - l := (h l').mp ((h' l').mpr (by rw [Int.sub_self]; exact Int.dvd_zero s'))
      have e4 : s ∣ l' + s' - l := (h (l' + s')).mp ((h' _).mpr (by rw [show l' + s' - l' = s' by omega]; exact Int.dvd_refl s'))
      have d1 : s' ∣ s := by
        have := Int.dvd_sub e2 e1
        rw [show l + s - l' - (l - l') = s by omega] at this
        exact this
      have d2 : s ∣ s' := by
        have := Int.dvd_sub e4 e3
        rw [show l' + s' - l - (l' - l) = s' by omega] at this
        exact this
      have es : s = s' := Int.dvd_antisymm (by omega) (by omega) d2 d1
      subst es
      have el : l = l' := by
        have h2 : l % s = l' % s := Int.emod_eq_emod_iff_emod_sub_eq_zero.mpr (Int.emod_eq_zero_of_dvd e1)
        rw [Int.emod_eq_of_lt l0 l1, Int.emod_eq_of_lt l0' l1'] at h2
        exact h2
      rw [el]
/-- conditions by a count: t = l + c * s -/
theorem cond_count {m l s g h c : Int} : m ∣ (l + c * s) * g - h ↔ ((s * g % m) * c + l * g % m - h % m) % m = 0 := by
  have e : (s * g % m) * c + l * g % m - h % m = ((l + c * s) * g - h) - m * ((s * g / m) * c + l * g / m - h / m) := by
    have h1 := Int.mul_ediv_add_emod (s * g) m
    have h2 := Int.mul_ediv_add_emod (l * g) m
    have h3 := Int.mul_ediv_add_emod h m
    have e1 : s * g % m = s * g - m * (s * g / m) := by omega
    have e2 : l * g % m = l * g - m * (l * g / m) := by omega
    have e3 : h % m = h - m * (h / m) := by omega
    rw [e1, e2, e3]
    grind
  rw [e, Int.sub_mul_emod_self_left]
  exact Int.dvd_iff_emod_eq_zero
theorem fit_none {m l s : Int} {xs : List Int} {k : Nat} (m0 : 0 < m) (F : FitR m xs k (some (l, s))) (h : (gat xs (k + 1) % m - l * gat xs k % m) % (Int.gcd (s * gat xs k % m) m : Nat) ≠ 0) : FitR m xs (k + 1) none := by
  obtain ⟨s0, sd, l0, l1, hF⟩ := F
  intro t ht
  obtain ⟨a, b⟩ := fitU_succ.mp ht
  obtain ⟨c, hc⟩ := (hF t).mp a
  have et : t = l + c * s := by rw [Int.mul_comm c s, ← hc]; omega
  rw [et] at b
  exact no_bef (x := c) m0 h (cond_count.mp b)
theorem fit_some {m l s x : Int} {xs : List Int} {k : Nat} (m0 : 0 < m) (F : FitR m xs k (some (l, s))) (B : Bef (s * gat xs k % m) (l * gat xs k % m) m (gat xs (k + 1) % m) x) : FitR m xs (k + 1) (some (l + x * s, m / (Int.gcd (s * gat xs k % m) m : Nat) * s)) := by
  obtain ⟨s0, sd, l0, l1, hF⟩ := F
  have nr := mod_bd (gat xs (k + 1)) m0
  have iff := fun y => bef_iff (y := y) m0 nr.1 nr.2 B
  obtain ⟨e1, e2, e3, e4⟩ := gcd_parts (t := s * gat xs k % m) m0
  obtain ⟨x0, x1, _⟩ := B
  have gd : s ∣ (Int.gcd (s * gat xs k % m) m : Nat) := by
    refine Int.dvd_coe_gcd ?_ sd
    have h1 := Int.mul_ediv_add_emod (s * gat xs k) m
    have e : s * gat xs k % m = s * gat xs k - m * (s * gat xs k / m) := by omega
    rw [e]
    exact Int.dvd_sub (Int.dvd_mul_right _ _) (Int.dvd_trans sd (Int.dvd_mul_right _ _))
  generalize (Int.gcd (s * gat xs k % m) m : Nat) = d at *
  generalize hap : m / (d : Int) = a at *
  refine ⟨Int.mul_pos e3 s0, ?_, ?_, ?_, fun t => ?_⟩
  · obtain ⟨q, hq⟩ := gd
    rw [e2, hq]
    exact ⟨q, by grind⟩
  · have := Int.mul_nonneg x0 (Int.le_of_lt s0)
    omega
  · have h1 : (x + 1) * s ≤ a * s := Int.mul_le_mul_of_nonneg_right (by omega) (by omega)
    have h2 : (x + 1) * s = x * s + s := by grind
    omega
  · rw [fitU_succ, hF t]
    constructor
    · rintro ⟨⟨c, hc⟩, h⟩
      have et : t = l + c * s := by rw [Int.mul_comm c s, ← hc]; omega
      subst et
      have hx := (iff c).mp (cond_count.mp h)
      have hd := Int.mul_ediv_add_emod c a
      rw [hx] at hd
      exact ⟨c / a, by rw [← hd]; grind⟩
    · rintro ⟨q, hq⟩
      have et : t = l + (x + a * q) * s := by grind
      refine ⟨⟨x + a * q, by rw [et]; grind⟩, ?_⟩
      rw [et]
      refine cond_count.mpr ((iff _).mpr ?_)
      rw [Int.add_mul_emod_self_left, Int.emod_eq_of_lt x0 x1]
end Tw

/-! Quotients by any number; the fit by going from remainder to remainder; promises of the fits. -/
namespace Tw
open PySem PySem.Spec PyProof.Rows L2

theorem op_fdivZ {X : Cx} : OpR X (binaryOp .FloorDiv) (rI (fun _ j => j ≠ 0 ∧ Big j) fun i j => .int (i.fdiv j)) := opI fun i j _ _ _ _ _ hc q =>
  floordiv_int hc.1 q (.inl (PyProof.noPylong_of_log2 (Nat.lt_of_lt_of_le (PySem.Flt.log2_lt_of (by decide) hc.2.abs) (by decide))))
theorem fd_bd {n o : Int} (h : o ≠ 0) : (n - n.fdiv o * o).natAbs < o.natAbs := by
  by_cases p : 0 < o
  · rw [Int.fdiv_eq_ediv_of_nonneg n (by omega)]
    have h1 := Int.mul_ediv_add_emod n o
    have h2 := mod_bd n p
    have e : n - n / o * o = n % o := by rw [Int.mul_comm]; omega
    rw [e]
    omega
  · rw [← Int.neg_fdiv_neg, Int.fdiv_eq_ediv_of_nonneg (-n) (by omega)]
    have h1 := Int.mul_ediv_add_emod (-n) (-o)
    have h2 := mod_bd (-n) (show 0 < -o by omega)
    have e : n - -n / -o * o = -(-n % -o) := by
      have : -o * (-n / -o) = -(-n / -o * o) := by grind
      omega
    rw [e]
    omega
theorem fd_abs {n o : Int} (h : o ≠ 0) : (n.fdiv o).natAbs ≤ n.natAbs + o.natAbs := by
  have b := fd_bd (n := n) h
  have h1 : (n.fdiv o * o).natAbs ≤ n.natAbs + o.natAbs := by omega
  rw [Int.natAbs_mul] at h1
  have h2 : (n.fdiv o).natAbs * 1 ≤ (n.fdiv o).natAbs * o.natAbs := Nat.mul_le_mul_left _ (by omega)
  omega
theorem gcd_ext {a b a' b' : Int} (h : ∀ d : Int, (d ∣ a ∧ d ∣ b) ↔ (d ∣ a' ∧ d ∣ b')) : Int.gcd a b = Int.gcd a' b' := by
  refine Nat.dvd_antisymm ?_ ?_
  · have := (h (Int.gcd a b : Nat)).mp ⟨Int.gcd_dvd_left .., Int.gcd_dvd_right ..⟩
    exact Int.ofNat_dvd.mp (Int.dvd_coe_gcd this.1 this.2)
  · have := (h (Int.gcd a' b' : Nat)).mpr ⟨Int.gcd_dvd_left .., Int.gcd_dvd_right ..⟩
    exact Int.ofNat_dvd.mp (Int.dvd_coe_gcd this.1 this.2)
theorem gcd_euc (n o q : Int) : Int.gcd o (n - q * o) = Int.gcd n o := gcd_ext fun d => by
  constructor
  · rintro ⟨a, b⟩
    have := Int.dvd_add b (Int.dvd_trans a (Int.dvd_mul_left q o))
    rw [show n - q * o + q * o = n by omega] at this
    exact ⟨this, a⟩
  · rintro ⟨a, b⟩
    exact ⟨b, Int.dvd_sub a (Int.dvd_trans b (Int.dvd_mul_left q o))⟩
theorem euc_sol {m t n o d e q : Int} : (m ∣ t * n - d ∧ m ∣ t * o - e) ↔ (m ∣ t * o - e ∧ m ∣ t * (n - q * o) - (d - q * e) % m) := by
  have h1 := Int.mul_ediv_add_emod (d - q * e) m
  have e1 : t * (n - q * o) - (d - q * e) % m = (t * n - d) - q * (t * o - e) + m * ((d - q * e) / m) := by grind
  have hm : m ∣ m * ((d - q * e) / m) := Int.dvd_mul_right _ _
  constructor
  · rintro ⟨a, b⟩
    refine ⟨b, ?_⟩
    rw [e1]
    exact Int.dvd_add (Int.dvd_sub a (Int.dvd_trans b (Int.dvd_mul_left _ _))) hm
  · rintro ⟨b, a⟩
    refine ⟨?_, b⟩
    rw [e1] at a
    have h2 := Int.dvd_add (Int.dvd_sub a hm) (Int.dvd_trans b (Int.dvd_mul_left q (t * o - e)))
    rw [show t * n - d - q * (t * o - e) + m * ((d - q * e) / m) - m * ((d - q * e) / m) + q * (t * o - e) = t * n - d by omega] at h2
    exact h2
/-- one condition for all -/
structure OneC (m : Int) (xs : List Int) (k : Nat) (n d : Int) : Prop where
  nz : n ≠ 0
  dv : n ∣ m
  sol : ∀ t, FitU m xs k t ↔ m ∣ t * n - d
theorem oneC_zero {m : Int} (m0 : 0 < m) (xs : List Int) : OneC m xs 0 m 0 := ⟨by omega, Int.dvd_refl m, fun t => ⟨fun _ => by rw [Int.sub_zero]; exact Int.dvd_mul_left t m, fun _ => fitU_zero m xs t⟩⟩
theorem OneC.none {m n d : Int} {xs : List Int} {k K : Nat} (h : OneC m xs k n d) (hk : k ≤ K) (nd : d % n ≠ 0) : FitR m xs K Option.none := fun t ht => by
  have h1 := (h.sol t).mp (fitU_mono ht hk)
  have h2 := Int.dvd_trans h.dv h1
  refine nd (Int.emod_eq_zero_of_dvd ?_)
  have h3 := Int.dvd_sub (Int.dvd_mul_left t n) h2
  rw [show t * n - (t * n - d) = d by omega] at h3
  exact h3
theorem OneC.some {m n d : Int} {xs : List Int} {k : Nat} (m0 : 0 < m) (n0 : 0 < n) (h : OneC m xs k n d) (hd : d % n = 0) : FitR m xs k (Option.some (d / n % (m / n), m / n)) := by
  obtain ⟨s, hs⟩ := h.dv
  have es : m / n = s := by rw [hs]; exact Int.mul_ediv_cancel_left _ (by omega)
  have s0 : 0 < s := by
    by_cases z : 0 < s
    · exact z
    · have := Int.mul_nonneg (show 0 ≤ n by omega) (show 0 ≤ -s by omega)
      have e : n * -s = -(n * s) := by grind
      omega
  have ed : d = n * (d / n) := by have := Int.mul_ediv_add_emod d n; omega
  rw [es]
  have bs := mod_bd (d / n) s0
  refine ⟨s0, ⟨n, by rw [hs, Int.mul_comm]⟩, bs.1, bs.2, fun t => ?_⟩
  rw [h.sol t]
  have e1 : t * n - d = n * (t - d / n) := by
    have : n * (t - d / n) = t * n - n * (d / n) := by grind
    omega
  rw [e1, hs, Int.mul_dvd_mul_iff_left (by omega)]
  have h1 := Int.mul_ediv_add_emod (d / n) s
  have e2 : t - d / n % s = (t - d / n) + s * (d / n / s) := by omega
  rw [e2]
  constructor
  · intro h
    exact Int.dvd_add h (Int.dvd_mul_right _ _)
  · intro h
    have := Int.dvd_sub h (Int.dvd_mul_right s (d / n / s))
    rw [show t - d / n + s * (d / n / s) - s * (d / n / s) = t - d / n by omega] at this
    exact this
theorem OneC.neg {m n d : Int} {xs : List Int} {k : Nat} (h : OneC m xs k n d) : OneC m xs k (0 - n) (0 - d) := by
  refine ⟨by have := h.nz; omega, ?_, fun t => ?_⟩
  · rw [Int.zero_sub]
    exact Int.neg_dvd.mpr h.dv
  · rw [h.sol t, show t * (0 - n) - (0 - d) = -(t * n - d) by grind]
    exact Int.dvd_neg.symm
/-- what a fit is told by -/
def FitV (m : Int) (xs : List Int) (j : Nat) (H : Hp) (v : V) : Prop := (v = .non ∧ FitR m xs j none) ∨ ∃ (q : Addr) (l s : Int), v = .ref q ∧ H q = some (.tup [.int l, .int s]) ∧ FitR m xs j (some (l, s))
theorem FitV.same {m : Int} {xs : List Int} {j : Nat} {H H' : Hp} {v : V} (h : FitV m xs j H v) (s : Same H H') : FitV m xs j H' v := by
  rcases h with h | ⟨q, l, st, e, hq, r⟩
  · exact .inl h
  · exact .inr ⟨q, l, st, e, s _ _ hq, r⟩
theorem fitR_none_mono {m : Int} {xs : List Int} {j k : Nat} (h : FitR m xs j none) (l : j ≤ k) : FitR m xs k none := fun t ht => h t (fitU_mono ht l)
def pFitL (K : PySem.W.Frag) : V → V → Hp → VK → XK → Prop := fun a b H Q _ => ∃ (r : Addr) (xs : List Int) (m : Int), a = .ref r ∧ b = .int m ∧ SqT K H r (xs.map V.int) ∧ 1 ≤ m ∧ m ≤ 1000000000000 ∧ Rng m xs ∧ xs.length ≤ 1000 ∧
  ∀ H' v, Same H H' → FitV m xs (xs.length - 2) H' v → (∀ q, v = .ref q → H q = none) → Q v H'
def pNarrow : V → V → V → V → Hp → VK → XK → Prop := fun a b c e H Q _ => ∃ (v : V) (xs : List Int) (k : Nat) (m : Int), a = v ∧ b = .int (gat xs k) ∧ c = .int (gat xs (k + 1)) ∧ e = .int m ∧ FitV m xs k H v ∧ 1 ≤ m ∧ m ≤ 1000000000000 ∧ Rng m xs ∧
  ∀ H' v', Same H H' → FitV m xs (k + 1) H' v' → (∀ q, v' = .ref q → H q = none) → Q v' H'
/-- the first number that is none of the bound's -/
def FirstBad (m : Int) (xs : List Int) (i : Nat) : Prop := i < xs.length ∧ ¬ (0 ≤ xs.getD i 0 ∧ xs.getD i 0 < m) ∧ ∀ j, j < i → 0 ≤ xs.getD j 0 ∧ xs.getD j 0 < m
theorem rng_or_bad (m : Int) (xs : List Int) : Rng m xs ∨ ∃ i, FirstBad m xs i := by
  have : ∀ k, k ≤ xs.length → (∀ j, j < k → 0 ≤ xs.getD j 0 ∧ xs.getD j 0 < m) ∨ ∃ i, FirstBad m xs i := by
    intro k
    induction k with
    | zero => exact fun _ => .inl fun j hj => absurd hj (Nat.not_lt_zero _)
    | succ k ih =>
      intro hk
      rcases ih (by omega) with h | h
      · by_cases b : 0 ≤ xs.getD k 0 ∧ xs.getD k 0 < m
        · refine .inl fun j hj => ?_
          by_cases e : j = k
          · rw [e]; exact b
          · exact h j (by omega)
        · exact .inr ⟨k, by omega, b, h⟩
      · exact .inr h
  rcases this xs.length (Nat.le_refl _) with h | h
  · refine .inl fun x hx => ?_
    obtain ⟨i, hi, e⟩ := List.getElem_of_mem hx
    have := h i hi
    rw [get_D (List.getElem?_eq_getElem hi), e] at this
    exact this
  · exact .inr h
def pTimes (K : PySem.W.Frag) (CN : Addr) : V → V → Hp → VK → XK → Prop := fun a b H Q E => ∃ (r : Addr) (xs : List Int) (m : Int), a = .ref r ∧ b = .int m ∧ SqT K H r (xs.map V.int) ∧ 1 ≤ m ∧ m ≤ 1000000000000 ∧ xs.length ≤ 1000 ∧
  (Rng m xs → ∀ H' v, Same H H' → FitV m xs (xs.length - 2) H' v → (∀ q, v = .ref q → H q = none) → Q v H') ∧ (∀ i, FirstBad m xs i → Bad CN (xs.getD i 0) H E)
/-- all fits on the way -/
def FitsV (m : Int) (xs : List Int) (H : Hp) (vs : List V) : Prop := ∀ j v, vs[j]? = some v → FitV m xs j H v
def pFits (K : PySem.W.Frag) (CN : Addr) : V → V → Hp → VK → XK → Prop := fun a b H Q E => ∃ (r : Addr) (xs : List Int) (m : Int), a = .ref r ∧ b = .int m ∧ SqT K H r (xs.map V.int) ∧ 1 ≤ m ∧ m ≤ 1000000000000 ∧ xs.length ≤ 1000 ∧
  (Rng m xs → ∀ H' l vs, Same H H' → H l = none → H' l = some (.lst vs) → vs.length = xs.length - 2 + 1 → FitsV m xs H' vs → (∀ q, .ref q ∈ vs → H q = none) → Q (.ref l) H') ∧ (∀ i, FirstBad m xs i → Bad CN (xs.getD i 0) H E)
section
variable {P : Program} {w : World} {K : PySem.W.Frag} {mg : Str → Option Value} {base : Heap} {x : Str} {st : Stmt} {N : List Str} {k : Nat}
theorem Top.ok4q {a b c d : Str} {p : V → V → V → V → Hp → VK → XK → Prop} (D : Top K mg x st [a, b, c, d]) (S : FnScope N [a, b, c, d] (defScope st))
    (hbody : ∀ (f : Addr) (cdv : Value) (A : Around) (outer : List Env) (s : Shared) (H : Hp) (v1 v2 v3 v4 : V) (Q : VK) (E : XK), Room k (A.deeper (envOfC x (defScope st) s.heap.objs.size f cdv)) → p v1 v2 v3 v4 H Q E →
      ∃ t, PSs (cxOf CX0 P w K mg base N x (defScope st) f cdv A outer s H E).nox (defBody st) t ∧ t { nx := fun _ H' => Q .non H', rt := Q } (start N [v1, v2, v3, v4]) H) : Has P w K mg base CX0 (k + 1) x [a, b, c, d] (sp4 p) :=
  D.ok S (fun vs H Q E h => by obtain ⟨_, _, _, _, rfl, _⟩ := h; rfl) (fun f cdv A outer s H vs Q E hr h => by obtain ⟨v1, v2, v3, v4, rfl, h⟩ := h; exact hbody f cdv A outer s H v1 v2 v3 v4 Q E hr h)
end
end Tw

/-! Fits by going through all times; data compared. -/
namespace Tw
open PySem PySem.Spec PyProof.Rows L2

theorem eqvAll_ints : ∀ as bs : List Int, PyData.eqvAll (as.map PyData.int) (bs.map PyData.int) = decide (as = bs)
  | [], [] => by simp [PyData.eqvAll]
  | [], b :: bs => by simp [PyData.eqvAll]
  | a :: as, [] => by simp [PyData.eqvAll]
  | a :: as, b :: bs => by
    rw [List.map_cons, List.map_cons, PyData.eqvAll, eqvAll_ints as bs]
    by_cases h : a = b
    · subst h
      by_cases h2 : as = bs <;> simp [PyData.eqv, h2]
    · simp [PyData.eqv, h]
theorem eqv_lints (as bs : List Int) : PyData.eqv (.list (as.map PyData.int)) (.list (bs.map PyData.int)) = decide (as = bs) := by
  rw [PyData.eqv, eqvAll_ints]
theorem eqv_tints (as bs : List Int) : PyData.eqv (.tuple (as.map PyData.int)) (.tuple (bs.map PyData.int)) = decide (as = bs) := by
  rw [PyData.eqv, eqvAll_ints]
theorem FirstBad.no {m : Int} {xs : List Int} {i : Nat} (h : FirstBad m xs i) (rg : Rng m xs) : False := by
  have l := h.1
  have := h.2.1
  rw [get_D (List.getElem?_eq_getElem l)] at this
  exact this (rg _ (List.getElem_mem l))
/-- the plus of times t -/
def plusOf (m : Int) (xs : List Int) (t : Int) : Int := (xs.getD 1 0 - t * xs.getD 0 0) % m
theorem mod_eq_of_dvd {m a b : Int} (m0 : 0 < m) (b0 : 0 ≤ b) (b1 : b < m) (h : m ∣ a - b) : a % m = b := by
  have h2 : a % m = b % m := Int.emod_eq_emod_iff_emod_sub_eq_zero.mpr (Int.emod_eq_zero_of_dvd h)
  rw [h2, Int.emod_eq_of_lt b0 b1]
theorem dvd_of_mod_eq {m a b : Int} (h : a % m = b) : m ∣ a - b := by
  have h1 := Int.mul_ediv_add_emod a m
  exact ⟨a / m, by omega⟩
theorem step_iff {m : Int} {xs : List Int} (m0 : 0 < m) (rg : Rng m xs) (t : Int) : ∀ k, (∀ i, i < k + 1 → (t * xs.getD i 0 + plusOf m xs t) % m = xs.getD (i + 1) 0) ↔ FitU m xs k t
  | 0 => by
    refine ⟨fun _ => fitU_zero m xs t, fun _ i hi => ?_⟩
    have e : i = 0 := by omega
    subst e
    have g := getD_rng m0 rg 1
    refine mod_eq_of_dvd m0 g.1 g.2 ?_
    have h1 := Int.mul_ediv_add_emod (xs.getD 1 0 - t * xs.getD 0 0) m
    unfold plusOf
    exact ⟨-((xs.getD 1 0 - t * xs.getD 0 0) / m), by grind⟩
  | k + 1 => by
    rw [fitU_succ, ← step_iff m0 rg t k]
    constructor
    · intro h
      refine ⟨fun i hi => h i (by omega), ?_⟩
      have h1 := dvd_of_mod_eq (h k (by omega))
      have h2 := dvd_of_mod_eq (h (k + 1) (by omega))
      have h3 := Int.dvd_sub h2 h1
      unfold gat
      rw [show t * (xs.getD (k + 1) 0 - xs.getD k 0) - (xs.getD (k + 1 + 1) 0 - xs.getD (k + 1) 0) = t * xs.getD (k + 1) 0 + plusOf m xs t - xs.getD (k + 1 + 1) 0 - (t * xs.getD k 0 + plusOf m xs t - xs.getD (k + 1) 0) by grind]
      exact h3
    · rintro ⟨h, h3⟩ i hi
      by_cases e : i = k + 1
      · subst e
        have g := getD_rng m0 rg (k + 1 + 1)
        refine mod_eq_of_dvd m0 g.1 g.2 ?_
        have h1 := dvd_of_mod_eq (h k (by omega))
        have h4 := Int.dvd_add h1 h3
        unfold gat at h4
        rw [show t * xs.getD (k + 1) 0 + plusOf m xs t - xs.getD (k + 1 + 1) 0 = t * xs.getD k 0 + plusOf m xs t - xs.getD (k + 1) 0 + (t * (xs.getD (k + 1) 0 - xs.getD k 0) - (xs.getD (k + 1 + 1) 0 - xs.getD (k + 1) 0)) by grind]
        exact h4
      · exact h i (by omega)
/-- sorted, all of a class below m -/
theorem class_head {m l s : Int} {ks : List Int} (m0 : 0 < m) (s0 : 0 < s) (sd : s ∣ m) (l0 : 0 ≤ l) (l1 : l < s) (up : ks.Pairwise (· < ·)) (mem : ∀ t, t ∈ ks ↔ 0 ≤ t ∧ t < m ∧ s ∣ t - l) :
    ∃ rest, ks = l :: rest ∧ (rest ++ [l + m]).head? = some (l + s) := by
  have sm : s ≤ m := Int.le_of_dvd m0 sd
  have hl : l ∈ ks := (mem l).mpr ⟨l0, by omega, by rw [Int.sub_self]; exact Int.dvd_zero s⟩
  have low : ∀ t ∈ ks, t = l ∨ l + s ≤ t := fun t ht => by
    obtain ⟨t0, _, c, hc⟩ := (mem t).mp ht
    by_cases c0 : c ≤ -1
    · have := Int.mul_le_mul_of_nonneg_left c0 (show 0 ≤ s by omega)
      have e : s * -1 = -s := by grind
      omega
    · by_cases cz : c = 0
      · subst cz
        rw [Int.mul_zero] at hc
        exact .inl (by omega)
      · have := Int.mul_le_mul_of_nonneg_left (show 1 ≤ c by omega) (show 0 ≤ s by omega)
        rw [Int.mul_one] at this
        exact .inr (by omega)
  cases ks with
  | nil => cases hl
  | cons a rest =>
    obtain ⟨ua, ur⟩ := List.pairwise_cons.mp up
    have ea : a = l := by
      rcases List.mem_cons.mp hl with e | h
      · exact e.symm
      · have h1 := ua l h
        rcases low a List.mem_cons_self with e | e <;> omega
    subst ea
    refine ⟨rest, rfl, ?_⟩
    by_cases hs : s = m
    · subst hs
      have er : rest = [] := by
        cases rest with
        | nil => rfl
        | cons b r =>
          have h1 := ua b List.mem_cons_self
          have hb : b ∈ a :: b :: r := by simp
          have h2 := (mem b).mp hb
          rcases low b hb with e | e <;> omega
      rw [er]
      rfl
    · have hls : a + s ∈ a :: rest := by
        refine (mem _).mpr ⟨by omega, ?_, by rw [show a + s - a = s by omega]; exact Int.dvd_refl s⟩
        obtain ⟨c, hc⟩ := sd
        have c2 : 2 ≤ c := by
          by_cases z : 2 ≤ c
          · exact z
          · have : c ≤ 1 := by omega
            have := Int.mul_le_mul_of_nonneg_left this (show 0 ≤ s by omega)
            rw [Int.mul_one] at this
            omega
        have := Int.mul_le_mul_of_nonneg_left c2 (show 0 ≤ s by omega)
        omega
      cases rest with
      | nil =>
        rw [List.mem_singleton] at hls
        omega
      | cons b r =>
        have h1 := ua b List.mem_cons_self
        have hb : b ∈ a :: b :: r := by simp
        have h2 : a + s ≤ b := by rcases low b hb with e | e <;> omega
        rcases List.mem_cons.mp hls with e | hls
        · omega
        · rcases List.mem_cons.mp hls with e | h3
          · rw [e]
            rfl
          · have := (List.pairwise_cons.mp ur).1 _ h3
            omega
theorem fitU_mod {m : Int} {xs : List Int} {k : Nat} {t : Int} : FitU m xs k (t % m) ↔ FitU m xs k t := by
  have h1 := Int.mul_ediv_add_emod t m
  have e : ∀ g h : Int, t * g - h = t % m * g - h + m * (t / m * g) := fun g h => by grind
  constructor
  · intro h i hi
    rw [e]
    exact Int.dvd_add (h i hi) (Int.dvd_mul_right _ _)
  · intro h i hi
    have := Int.dvd_sub (h i hi) (Int.dvd_mul_right m (t / m * gat xs i))
    rw [e, show t % m * gat xs i - gat xs (i + 1) + m * (t / m * gat xs i) - m * (t / m * gat xs i) = t % m * gat xs i - gat xs (i + 1) by omega] at this
    exact this
def pTrial (K : PySem.W.Frag) : V → V → Hp → VK → XK → Prop := fun a b H Q _ => ∃ (r : Addr) (xs : List Int) (m : Int) (o : Option (Int × Int)), a = .ref r ∧ b = .int m ∧ SqT K H r (xs.map V.int) ∧ 1 ≤ m ∧ m ≤ 200 ∧ Rng m xs ∧ 2 ≤ xs.length ∧ xs.length ≤ 1000 ∧ FitR m xs (xs.length - 2) o ∧
  ∀ H' v, Same H H' → FitV m xs (xs.length - 2) H' v → Q v H'
def pRight11 (K : PySem.W.Frag) : V → V → Hp → VK → XK → Prop := fun a b H Q _ => ∃ (r : Addr) (xs : List Int) (m : Int), a = .ref r ∧ b = .int m ∧ SqT K H r (xs.map V.int) ∧ 1 ≤ m ∧ m ≤ 1000000000000 ∧ Rng m xs ∧ 2 ≤ xs.length ∧ xs.length ≤ 1000 ∧ ∀ H', Same H H' → Q (.bl true) H'
/-- two told fits are alike: both None, or the same pair -/
theorem FitV.two {m : Int} {xs : List Int} {j : Nat} {H : Hp} {v u : V} (a : FitV m xs j H v) (b : FitV m xs j H u) : (v = .non ∧ u = .non) ∨ ∃ (q p : Addr) (l s : Int), v = .ref q ∧ u = .ref p ∧ H q = some (.tup [.int l, .int s]) ∧ H p = some (.tup [.int l, .int s]) ∧ FitR m xs j (some (l, s)) := by
  rcases a with ⟨rfl, fa⟩ | ⟨q, l, s, rfl, hq, fa⟩
  · rcases b with ⟨rfl, fb⟩ | ⟨p, l', s', rfl, hp, fb⟩
    · exact .inl ⟨rfl, rfl⟩
    · cases fa.uniq fb
  · rcases b with ⟨rfl, fb⟩ | ⟨p, l', s', rfl, hp, fb⟩
    · cases fa.uniq fb
    · have e := fa.uniq fb
      cases e
      exact .inr ⟨q, p, l, s, rfl, rfl, hq, hp, fa⟩
theorem FitV.ex {m : Int} {xs : List Int} {j : Nat} {H : Hp} {v : V} (a : FitV m xs j H v) : ∃ o, FitR m xs j o := by
  rcases a with ⟨_, fa⟩ | ⟨_, l, s, _, _, fa⟩
  · exact ⟨none, fa⟩
  · exact ⟨some (l, s), fa⟩
end Tw

/-! Ranges by great steps; lists of tuples of numbers; the rules that fit. -/
namespace Tw
open PySem PySem.Spec PyProof.Rows L2

/-- how many there are from i below j by steps of c -/
def rgN (i j c : Int) : Nat := if i < j then ((j - i - 1) / c + 1).toNat else 0
def RgS (i j c : Int) : Prop := 0 < c ∧ c ≤ 10000000000000 ∧ -10000000000000 ≤ i ∧ i ≤ 10000000000000 ∧ -10000000000000 ≤ j ∧ j ≤ 10000000000000
theorem rgN_size {i j c : Int} (h : RgS i j c) : Builtin.Range.rangeSize i j c = (rgN i j c : Int) ∧ (rgN i j c : Int) ≤ 20000000000000 := by
  obtain ⟨c0, c1, i0, i1, j0, j1⟩ := h
  unfold Builtin.Range.rangeSize rgN
  rw [if_pos c0]
  by_cases e : i < j
  · rw [if_pos e, if_pos e]
    have h1 : 0 ≤ (j - i - 1) / c := Int.ediv_nonneg (by omega) (by omega)
    have h2 : (j - i - 1) / c ≤ j - i - 1 := Int.ediv_le_self _ (by omega)
    omega
  · rw [if_neg e, if_neg e]
    omega
theorem rgS_small {i j c : Int} (h : RgS i j c) : Builtin.Range.small i j c = true := by
  obtain ⟨e, b⟩ := rgN_size h
  obtain ⟨c0, c1, i0, i1, j0, j1⟩ := h
  unfold Builtin.Range.small
  rw [e]
  simp only [Builtin.Range.rangeFitsLong, Bool.and_eq_true, Bool.or_eq_true, decide_eq_true_eq, beq_iff_eq, if_pos c0]
  omega
def iRngS (ta : TA) : TI := fun σ H R => ta σ H fun vs H1 => ∃ (i j c : Int), vs = [.int i, .int j, .int c] ∧ RgS i j c ∧ R (Itc i c (rgN i j c)) H1
theorem pi_rangeS {X : Cx} {tg a b c : Expr} {ta : TA} {p pos : Pos} (hg : Gl X "range") (hm : X.mg "range" = none) (ha : PA X [a, b, c] ta)
    (hs : starEach [a, b, c] X.env = (false, eval a X.env) :: starEach [b, c] X.env := by rfl) (hpl : (backTo pos (starEach [b, c] X.env)).any (·.1) = false := by rfl) :
    PI X tg (.Call (.Name "range" p) [a, b, c] [] pos) (iRngS ta) := by
  refine ⟨fun pins s σ H R I h => ?_⟩
  refine Call_ (ld_blt I hg hm boot_range (PyProof.Rows.callWith_type1 (thn (ha.run pos pins s σ H _ I h) fun us s1 ⟨vs, H1, I1, r1, q1⟩ => ?_) hs hpl))
  obtain ⟨i, j, k, e, hr, q⟩ := q1
  subst e
  obtain ⟨u1, u2, u3, rfl, ⟨t, rfl⟩, ⟨t', rfl⟩, ⟨t'', rfl⟩⟩ := valsX3 r1
  have hb : Big k := by
    have := hr.1
    have := hr.2.1
    unfold Big
    omega
  refine call_range_3 (by have := hr.1; omega) ?_ (.inl (PyProof.noPylong_of_log2 (Nat.lt_of_lt_of_le (PySem.Flt.log2_lt_of (by decide) hb.abs) (by decide))))
  refine wpAny_pyIter_range (IsRange.new ..) (rgS_small hr) ?_
  have I2 : Inv X pins σ H1 { s1 with heap := s1.heap.push { cls := .type "range", data := .fields #[.int i t, .int j t', .int k t''] } } := I1.kept (t' := s1.toks) fun b o e => Heap.get?_push_of_some _ e
  refine pi_one (tk := s1.toks) I2 _ (turn_rangeC _ i k (rgN i j k)) ?_ q
  have e1 : i + ((0 : Nat) : Int) * k = i := by simp
  have e2 : ((rgN i j k : Nat) : Int) - ((0 : Nat) : Int) = Builtin.Range.rangeSize i j k := by rw [(rgN_size hr).1]; simp
  show IsRangeIter _ _ (i + ((0 : Nat) : Int) * k) (((rgN i j k : Nat) : Int) - ((0 : Nat) : Int)) k
  rw [e1, e2]
  exact Heap.get?_push_size _ rfl
/-! ### lists of tuples of numbers -/
def TRows (H : Hp) (ps : List Addr) (rs : List (List Int)) : Prop := ps.length = rs.length ∧ ∀ (i : Nat) (p : Addr) (r : List Int), ps[i]? = some p → rs[i]? = some r → H p = some (.tup (r.map V.int))
theorem TRows.nil (H : Hp) : TRows H [] [] := ⟨rfl, fun _ _ _ h => by cases h⟩
theorem TRows.same {H H' : Hp} {ps : List Addr} {rs : List (List Int)} (h : TRows H ps rs) (s : Same H H') : TRows H' ps rs := ⟨h.1, fun i p r a b => s _ _ (h.2 i p r a b)⟩
theorem TRows.mut {H : Hp} {ps : List Addr} {rs : List (List Int)} {L : Addr} {xs : List V} {o : HO} (h : TRows H ps rs) (hL : H L = some (.lst xs)) : TRows (upd H L o) ps rs := ⟨h.1, fun i p r a b => by
  have e := h.2 i p r a b
  rw [upd_ne (fun z => by rw [z, hL] at e; cases e)]
  exact e⟩
theorem TRows.snoc {H : Hp} {ps : List Addr} {rs : List (List Int)} {p : Addr} {r : List Int} (h : TRows H ps rs) (hp : H p = some (.tup (r.map V.int))) : TRows H (ps ++ [p]) (rs ++ [r]) := by
  refine ⟨by rw [List.length_append, List.length_append, h.1]; rfl, fun i p' r' a b => ?_⟩
  by_cases e : i < ps.length
  · rw [List.getElem?_append_left e] at a
    rw [List.getElem?_append_left (by rw [← h.1]; exact e)] at b
    exact h.2 i p' r' a b
  · have l1 := (List.getElem?_eq_some_iff.mp a).1
    rw [List.length_append] at l1
    have e' : i = ps.length := by simp at l1; omega
    subst e'
    rw [List.getElem?_append_right (Nat.le_refl _), Nat.sub_self] at a
    rw [h.1, List.getElem?_append_right (Nat.le_refl _), Nat.sub_self] at b
    cases a
    cases b
    exact hp
def dRows (rs : List (List Int)) : PyData := .list (rs.map fun r => .tuple (r.map PyData.int))
theorem lay_rows : ∀ rs : List (List Int), PyData.canLayAll0 (rs.map fun r => .tuple (r.map PyData.int)) = true ∧ PyData.depthAll (rs.map fun r => .tuple (r.map PyData.int)) ≤ 1
  | [] => ⟨rfl, by decide⟩
  | r :: rs => by
    obtain ⟨h1, h2⟩ := lay_rows rs
    obtain ⟨g1, g2⟩ := lay_ints r
    constructor
    · show (PyData.canLayAll0 (r.map PyData.int) && PyData.canLayAll0 (rs.map fun r => .tuple (r.map PyData.int))) = true
      rw [h1, g1]
      rfl
    · show max (PyData.depthAll (r.map PyData.int) + 1) (PyData.depthAll (rs.map fun r => .tuple (r.map PyData.int))) ≤ 1
      rw [g2]
      omega
theorem shp_rows (rs : List (List Int)) : SeqAt.shaped (dRows rs) = true := by
  obtain ⟨h1, h2⟩ := lay_rows rs
  show (PyData.canLayAll0 (rs.map fun r => .tuple (r.map PyData.int)) && decide (PyData.depthAll (rs.map fun r => .tuple (r.map PyData.int)) + 1 ≤ 64)) = true
  rw [h1, decide_eq_true (by omega)]
  rfl
theorem dp_rows {K : PySem.W.Frag} {H : Hp} : ∀ (ps : List Addr) (rs : List (List Int)), TRows H ps rs → DpAll K H (ps.map V.ref) (rs.map fun r => PyData.tuple (r.map PyData.int))
  | [], [], _ => .nil
  | [], _ :: _, h => absurd h.1 (by simp)
  | _ :: _, [], h => absurd h.1 (by simp)
  | p :: ps, r :: rs, h => .cons (.tup (SqT.of (h.2 0 p r rfl rfl)) (dp_ints r)) (dp_rows ps rs ⟨by have := h.1; simp at this; exact this, fun i p' r' a b => h.2 (i + 1) p' r' (by rw [List.getElem?_cons_succ]; exact a) (by rw [List.getElem?_cons_succ]; exact b)⟩)
theorem TRows.dp {K : PySem.W.Frag} {H : Hp} {l : Addr} {ps : List Addr} {rs : List (List Int)} (hl : H l = some (.lst (ps.map V.ref))) (h : TRows H ps rs) : Dp K H (.ref l) (dRows rs) := .lst (SqL.of hl) (dp_rows ps rs h)
/-! ### the first rules that fit -/
def ruleOf (m : Int) (xs : List Int) (t : Int) : List Int := [t, plusOf m xs t, m]
def rulesN (m : Int) (xs : List Int) (l s : Int) (n : Nat) : List (List Int) := (List.range n).map fun (i : Nat) => ruleOf m xs (l + (i : Int) * s)
def howMany (m : Int) (n : Int) : Option (Int × Int) → Nat
  | some (_, s) => (min n (m / s)).toNat
  | none => 0
def rulesR (m : Int) (xs : List Int) (n : Int) (o : Option (Int × Int)) : List (List Int) := match o with
  | some (l, s) => rulesN m xs l s (howMany m n (some (l, s)))
  | none => []
theorem rulesN_succ (m : Int) (xs : List Int) (l s : Int) (n : Nat) : rulesN m xs l s (n + 1) = rulesN m xs l s n ++ [ruleOf m xs (l + (n : Int) * s)] := by
  unfold rulesN
  rw [List.range_succ, List.map_append]
  rfl
theorem rulesN_len (m : Int) (xs : List Int) (l s : Int) (n : Nat) : (rulesN m xs l s n).length = n := by
  unfold rulesN
  rw [List.length_map, List.length_range]
/-- how many the range tells -/
theorem rg_count {m l s n : Int} (m0 : 0 < m) (s0 : 0 < s) (sd : s ∣ m) (l0 : 0 ≤ l) (l1 : l < s) (n0 : 0 ≤ n) : rgN l (if l + s * n < m then l + s * n else m) s = (min n (m / s)).toNat := by
  obtain ⟨c, rfl⟩ := sd
  have c0 : 0 < c := by
    by_cases z : 0 < c
    · exact z
    · have := Int.mul_nonneg (show 0 ≤ s by omega) (show 0 ≤ -c by omega)
      have e : s * -c = -(s * c) := by grind
      omega
  rw [Int.mul_ediv_cancel_left _ (show s ≠ 0 by omega)]
  unfold rgN
  by_cases h : l + s * n < s * c
  · rw [if_pos h]
    have nc : n < c := by
      by_cases z : n < c
      · exact z
      · have := Int.mul_le_mul_of_nonneg_left (show c ≤ n by omega) (show 0 ≤ s by omega)
        omega
    by_cases hn : n = 0
    · subst hn
      rw [Int.mul_zero, if_neg (by omega)]
      omega
    · have h1 := Int.mul_le_mul_of_nonneg_left (show 1 ≤ n by omega) (show 0 ≤ s by omega)
      rw [Int.mul_one] at h1
      rw [if_pos (by omega)]
      have e : (l + s * n - l - 1) / s = n - 1 := by
        rw [show l + s * n - l - 1 = (s - 1) + s * (n - 1) by grind, Int.add_mul_ediv_left _ _ (show s ≠ 0 by omega), Int.ediv_eq_zero_of_lt (by omega) (by omega)]
        omega
      rw [e]
      omega
  · rw [if_neg h]
    have cn : c ≤ n := by
      by_cases z : c ≤ n
      · exact z
      · have := Int.mul_le_mul_of_nonneg_left (show n + 1 ≤ c by omega) (show 0 ≤ s by omega)
        have e : s * (n + 1) = s * n + s := by grind
        omega
    have h1 := Int.mul_le_mul_of_nonneg_left (show 1 ≤ c by omega) (show 0 ≤ s by omega)
    rw [Int.mul_one] at h1
    rw [if_pos (by omega)]
    have e : (s * c - l - 1) / s = c - 1 := by
      rw [show s * c - l - 1 = (s - 1 - l) + s * (c - 1) by grind, Int.add_mul_ediv_left _ _ (show s ≠ 0 by omega), Int.ediv_eq_zero_of_lt (by omega) (by omega)]
      omega
    rw [e]
    omega
def pRules (K : PySem.W.Frag) (CN : Addr) : V → V → V → Hp → VK → XK → Prop := fun a b c H Q E => ∃ (r : Addr) (xs : List Int) (m n : Int), a = .ref r ∧ b = .int m ∧ c = .int n ∧ SqT K H r (xs.map V.int) ∧ 1 ≤ m ∧ m ≤ 1000000000000 ∧ 0 ≤ n ∧ n ≤ 3000 ∧ 2 ≤ xs.length ∧ xs.length ≤ 1000 ∧
  (Rng m xs → ∀ H' l ps o, Same H H' → H l = none → H' l = some (.lst (ps.map V.ref)) → TRows H' ps (rulesR m xs n o) → FitR m xs (xs.length - 2) o → Q (.ref l) H') ∧ (∀ i, FirstBad m xs i → Bad CN (xs.getD i 0) H E)
end Tw
namespace Tw
open PySem PySem.Spec PyProof.Rows L2
def pDueR (K : PySem.W.Frag) : V → V → V → Hp → VK → XK → Prop := fun a b c H Q _ => ∃ (r : Addr) (xs : List Int) (m n : Int), a = .ref r ∧ b = .int m ∧ c = .int n ∧ SqT K H r (xs.map V.int) ∧ 1 ≤ m ∧ m ≤ 1000000000000 ∧ 0 ≤ n ∧ n ≤ 3000 ∧ 2 ≤ xs.length ∧ xs.length ≤ 1000 ∧ Rng m xs ∧
  ∀ H' l ps o, Same H H' → H l = none → H' l = some (.lst (ps.map V.ref)) → TRows H' ps (rulesR m xs n o) → FitR m xs (xs.length - 2) o → Q (.ref l) H'
def pAreR : V → V → Hp → VK → XK → Prop := fun a b H Q _ => ∃ (l1 l2 : Addr) (ps1 ps2 : List Addr) (rs : List (List Int)), a = .ref l1 ∧ b = .ref l2 ∧ H l1 = some (.lst (ps1.map V.ref)) ∧ H l2 = some (.lst (ps2.map V.ref)) ∧ TRows H ps1 rs ∧ TRows H ps2 rs ∧ ∀ H', Same H H' → Q (.bl true) H'
def pRight12 (K : PySem.W.Frag) : V → V → V → Hp → VK → XK → Prop := fun a b c H Q _ => ∃ (r : Addr) (xs : List Int) (m n : Int), a = .ref r ∧ b = .int m ∧ c = .int n ∧ SqT K H r (xs.map V.int) ∧ 1 ≤ m ∧ m ≤ 1000000000000 ∧ 0 ≤ n ∧ n ≤ 3000 ∧ 2 ≤ xs.length ∧ xs.length ≤ 1000 ∧ Rng m xs ∧ ∀ H', Same H H' → Q (.bl true) H'
theorem rulesR_len {m n : Int} {xs : List Int} {o : Option (Int × Int)} (n0 : 0 ≤ n) (n1 : n ≤ 3000) : (rulesR m xs n o).length ≤ 3000 := by
  cases o with
  | none => exact Nat.zero_le _
  | some p =>
    obtain ⟨l, s⟩ := p
    show (rulesN m xs l s (min n (m / s)).toNat).length ≤ 3000
    rw [rulesN_len]
    omega
theorem TRows.get {H : Hp} {ps : List Addr} {rs : List (List Int)} (h : TRows H ps rs) {i : Nat} {v : V} (hv : (ps.map V.ref)[i]? = some v) : ∃ p r, v = .ref p ∧ rs[i]? = some r ∧ H p = some (.tup (r.map V.int)) := by
  rw [List.getElem?_map] at hv
  cases e : ps[i]? with
  | none => rw [e] at hv; cases hv
  | some p =>
    rw [e] at hv
    cases hv
    have li := (List.getElem?_eq_some_iff.mp e).1
    have lr : i < rs.length := by rw [← h.1]; exact li
    exact ⟨p, rs[i], rfl, List.getElem?_eq_getElem lr, h.2 i p _ e (List.getElem?_eq_getElem lr)⟩
end Tw

/-! What settles a row; the number behind; a held refusal against several classes at once. -/
namespace Tw
open PySem PySem.Spec PyProof.Rows L2

/-- isinstance(e, (C1, C2, ..)), e a held exception of the class at D -/
def rIsXT (K : PySem.W.Frag) : List V → Hp → VK → Prop := fun xs H Q => ∃ (a D : Addr) (d : Option Addr) (tp : Addr) (cs : List V) (us : List Value) (b : Bool), xs = [.ref a, .ref tp] ∧ H tp = some (.tup cs) ∧ Paired ClsV cs us ∧ H a = some (exv a (.ref D) d) ∧ HasD H d ∧ XcC K D ∧ PySem.W.kitAny K (.ref D) us = some b ∧ Q (.bl b) H
theorem call_isXT {X : Cx} : CallR X (.builtin "isinstance") (rIsXT X.K) := by
  intro pins s σ H xs us Q I r h
  obtain ⟨a, D, d, tp, cs, ws, b, rfl, hT, k, ea, hd, T, e, q⟩ := h
  obtain ⟨u1, u2, rfl, r1, r2⟩ := vals2 r
  cases (show u1 = Value.ref a from r1)
  cases (show u2 = Value.ref tp from r2)
  obtain ⟨_, its, rv, o, h1, h2, n, h3⟩ := (show ObjOk X.prog X.w H s.heap tp (.tup cs) from I.hok tp _ hT)
  have e3 := ClsV.all k rv
  subst e3
  obtain ⟨oc, od', dt, sl⟩ := o
  simp only at h2 h3
  subst h2 h3
  obtain ⟨oe, od, J⟩ := inst_of I ea hd
  exact PySem.W.kia_tup (PySem.W.kitx_exc T.hc T.hg T.hk T.hs T.ha T.hn T.ht T.hm) I.kIn J h1 e (fun z => nomatch z) fun tk => ⟨.bl b, H, I.tok tk, rfl, q⟩
theorem kitAny4 {K : PySem.W.Frag} {t a b c d : Value} (ha : PySem.W.kitOne K t a = some false) (hb : PySem.W.kitOne K t b = some false) (hc : PySem.W.kitOne K t c = some false) (hd : PySem.W.kitOne K t d = some false) : PySem.W.kitAny K t [a, b, c, d] = some false := by
  unfold PySem.W.kitAny
  rw [ha]
  simp only
  unfold PySem.W.kitAny
  rw [hb]
  simp only
  unfold PySem.W.kitAny
  rw [hc]
  simp only
  unfold PySem.W.kitAny
  rw [hd]
  rfl
theorem flatI (ns : List Int) : (ns.map V.int).all flatV = true := by
  rw [List.all_map, List.all_eq_true]
  exact fun x _ => rfl
theorem eqVI (a b : Int) : eqV (.int a) (.int b) = decide (a = b) := by
  by_cases h : a = b
  · rw [h]; simp [eqV]
  · simp [eqV, h]
theorem inVI (m : Int) (ns : List Int) : inV (.int m) (ns.map V.int) = decide (m ∈ ns) := by
  unfold inV
  rw [List.any_map]
  by_cases h : m ∈ ns
  · rw [decide_eq_true h, List.any_eq_true]
    exact ⟨m, h, by show eqV (.int m) (.int m) = true; rw [eqVI]; simp⟩
  · rw [decide_eq_false h, List.any_eq_false]
    intro x hx
    show ¬ eqV (.int x) (.int m) = true
    rw [eqVI]
    simp
    exact fun e => h (e ▸ hx)
/-! ### beginnings -/
theorem gat_take {xs : List Int} {k i : Nat} (h : i + 1 < k) : gat (xs.take k) i = gat xs i := by
  unfold gat
  rw [List.getD_eq_getElem?_getD, List.getD_eq_getElem?_getD, List.getD_eq_getElem?_getD, List.getD_eq_getElem?_getD, List.getElem?_take_of_lt h, List.getElem?_take_of_lt (by omega)]
theorem fitU_take {m : Int} {xs : List Int} {k j : Nat} {t : Int} (h : j + 2 ≤ k) : FitU m (xs.take k) j t ↔ FitU m xs j t := by
  constructor
  · intro q i hi
    have := q i hi
    rw [gat_take (by omega), gat_take (by omega)] at this
    exact this
  · intro q i hi
    rw [gat_take (by omega), gat_take (by omega)]
    exact q i hi
theorem fitR_take {m : Int} {xs : List Int} {k j : Nat} {o : Option (Int × Int)} (h : j + 2 ≤ k) : FitR m (xs.take k) j o ↔ FitR m xs j o := by
  cases o with
  | none => exact ⟨fun q t ht => q t ((fitU_take h).mpr ht), fun q t ht => q t ((fitU_take h).mp ht)⟩
  | some p =>
    obtain ⟨l, s⟩ := p
    constructor
    · rintro ⟨a, b, c, d, e⟩
      exact ⟨a, b, c, d, fun t => (fitU_take h).symm.trans (e t)⟩
    · rintro ⟨a, b, c, d, e⟩
      exact ⟨a, b, c, d, fun t => (fitU_take h).trans (e t)⟩
theorem fitV_take {m : Int} {xs : List Int} {k j : Nat} {H : Hp} {v : V} (h : j + 2 ≤ k) : FitV m (xs.take k) j H v ↔ FitV m xs j H v := by
  unfold FitV
  simp only [fitR_take h]
/-- one rule alone fits the first j conditions -/
def One (m : Int) (xs : List Int) (j : Nat) : Prop := ∃ l, FitR m xs j (some (l, m))
/-- by what the row is settled -/
def Sett (m : Int) (xs : List Int) (v : V) : Prop := (v = .non ∧ (FitR m xs (xs.length - 2) none ∨ ∀ j, j ≤ xs.length - 2 → ¬ One m xs j)) ∨ ∃ j : Nat, v = .int ((j : Int) + 2) ∧ j ≤ xs.length - 2 ∧ One m xs j ∧ (∀ i, i < j → ¬ One m xs i) ∧ ¬ FitR m xs (xs.length - 2) none
theorem Sett.uniq {m : Int} {xs : List Int} {v u : V} (a : Sett m xs v) (b : Sett m xs u) : v = u := by
  rcases a with ⟨rfl, a⟩ | ⟨j, rfl, jl, o, lo, nn⟩
  · rcases b with ⟨rfl, _⟩ | ⟨j, rfl, jl, o, lo, nn⟩
    · rfl
    · rcases a with a | a
      · exact absurd a nn
      · exact absurd o (a j jl)
  · rcases b with ⟨rfl, b⟩ | ⟨j', rfl, jl', o', lo', nn'⟩
    · rcases b with b | b
      · exact absurd b nn
      · exact absurd o (b j jl)
    · have e : j = j' := by
        by_cases h : j < j'
        · exact absurd o (lo' j h)
        · by_cases h' : j' < j
          · exact absurd o' (lo j' h')
          · omega
      rw [e]
def pSettled (K : PySem.W.Frag) (CN : Addr) : V → V → Hp → VK → XK → Prop := fun a b H Q E => ∃ (r : Addr) (xs : List Int) (m : Int), a = .ref r ∧ b = .int m ∧ SqT K H r (xs.map V.int) ∧ 1 ≤ m ∧ m ≤ 1000000000000 ∧ 2 ≤ xs.length ∧ xs.length ≤ 1000 ∧
  (Rng m xs → ∀ H' v, Same H H' → Sett m xs v → Q v H') ∧ (∀ i, FirstBad m xs i → Bad CN (xs.getD i 0) H E)
/-- the number behind by times t -/
def nxB (m : Int) (xs : List Int) (t : Int) : Int := (t * xs.getD (xs.length - 1) 0 + plusOf m xs t) % m
def behV (m : Int) (xs : List Int) (l s : Int) : V := if nxB m xs l = nxB m xs (l + s) then .int (nxB m xs l) else .non
theorem nxB_eq (m : Int) (xs : List Int) (t : Int) : nxB m xs t = (t * xs.getD (xs.length - 1) 0 + xs.getD 1 0 - t * xs.getD 0 0) % m := by
  unfold nxB plusOf
  rw [Int.add_emod, Int.emod_emod, ← Int.add_emod]
  congr 1
  omega
theorem nxB_m (m : Int) (xs : List Int) (l : Int) : nxB m xs (l + m) = nxB m xs l := by
  rw [nxB_eq, nxB_eq, show (l + m) * xs.getD (xs.length - 1) 0 + xs.getD 1 0 - (l + m) * xs.getD 0 0 = l * xs.getD (xs.length - 1) 0 + xs.getD 1 0 - l * xs.getD 0 0 + m * (xs.getD (xs.length - 1) 0 - xs.getD 0 0) by grind, Int.add_mul_emod_self_left]
def pBehind (K : PySem.W.Frag) (CN CF : Addr) : V → V → Hp → VK → XK → Prop := fun a b H Q E => ∃ (r : Addr) (xs : List Int) (m : Int), a = .ref r ∧ b = .int m ∧ SqT K H r (xs.map V.int) ∧ 1 ≤ m ∧ m ≤ 1000000000000 ∧ 2 ≤ xs.length ∧ xs.length ≤ 1000 ∧
  (Rng m xs → ∀ H' l s, Same H H' → FitR m xs (xs.length - 2) (some (l, s)) → Q (behV m xs l s) H') ∧ (Rng m xs → ∀ H', Same H H' → FitR m xs (xs.length - 2) none → E (.ref CF) none H') ∧ (∀ i, FirstBad m xs i → Bad CN (xs.getD i 0) H E)
end Tw
namespace Tw
theorem idx_le : ∀ {ss : List Int} {k : Nat} {m : Int}, ss[k]? = some m → ss.idxOf m ≤ k
  | [], _, _, h => by cases h
  | a :: ss, 0, m, h => by
    cases h
    rw [List.idxOf_cons_self]
    exact Nat.le_refl _
  | a :: ss, k + 1, m, h => by
    rw [List.getElem?_cons_succ] at h
    have := idx_le h
    rw [List.idxOf_cons]
    cases (a == m)
    · show List.idxOf m ss + 1 ≤ k + 1
      omega
    · exact Nat.zero_le _
end Tw
namespace Tw
open PySem PySem.Spec PyProof.Rows L2
def pLSett (K : PySem.W.Frag) : V → V → Hp → VK → XK → Prop := fun a b H Q _ => ∃ (r : Addr) (xs : List Int) (m : Int), a = .ref r ∧ b = .int m ∧ SqT K H r (xs.map V.int) ∧ 1 ≤ m ∧ m ≤ 1000000000000 ∧ Rng m xs ∧ 2 ≤ xs.length ∧ xs.length ≤ 1000 ∧ ∀ H' v, Same H H' → Sett m xs v → Q v H'
def pLNext (K : PySem.W.Frag) : V → V → V → Hp → VK → XK → Prop := fun a b c H Q _ => ∃ (r : Addr) (xs : List Int) (m t : Int), a = .ref r ∧ b = .int m ∧ c = .int t ∧ SqT K H r (xs.map V.int) ∧ 1 ≤ m ∧ m ≤ 1000000000000 ∧ Rng m xs ∧ 2 ≤ xs.length ∧ 0 ≤ t ∧ t ≤ 2000000000000 ∧ Q (.int (nxB m xs t)) H
def pNoFit (K : PySem.W.Frag) : V → V → Hp → VK → XK → Prop := fun a b H Q _ => ∃ (r : Addr) (xs : List Int) (m : Int), a = .ref r ∧ b = .int m ∧ SqT K H r (xs.map V.int) ∧ 1 ≤ m ∧ m ≤ 1000000000000 ∧ Rng m xs ∧ 2 ≤ xs.length ∧ xs.length ≤ 1000 ∧ FitR m xs (xs.length - 2) none ∧ ∀ H', Same H H' → Q (.bl true) H'
theorem at_last {xs : List Int} (h : 1 ≤ xs.length) : atI (xs.map V.int) (-1) = some (.int (xs.getD (xs.length - 1) 0)) := by
  have ne : xs ≠ [] := fun z => by rw [z] at h; exact absurd h (by simp)
  have e1 : xs.getD (xs.length - 1) 0 = xs.getLast ne := by
    rw [get_D (List.getElem?_eq_getElem (show xs.length - 1 < xs.length by omega)), List.getLast_eq_getElem]
  rw [e1]
  conv => lhs; rw [← List.dropLast_concat_getLast ne]
  rw [List.map_append]
  exact atI_last _ _
end Tw

/-! Decks of one great number and a mixed one: what is drawn of them. -/
namespace Tw
open PySem PySem.Spec PyProof.Rows L2

theorem bits_lt {x : Int} {n : Nat} (h : Builtin.Int.intBits x ≤ n) : x.natAbs < 2 ^ n := by
  unfold Builtin.Int.intBits at h
  by_cases e : x = 0
  · subst e
    exact Nat.two_pow_pos n
  · rw [if_neg (by simpa using e)] at h
    exact Nat.lt_of_lt_of_le (Nat.lt_log2_self) (Nat.pow_le_pow_right (by decide) h)
theorem lt_bits {x : Int} {n : Nat} (h : x.natAbs < 2 ^ n) : Builtin.Int.intBits x ≤ n := by
  unfold Builtin.Int.intBits
  by_cases e : x = 0
  · subst e
    exact Nat.zero_le _
  · rw [if_neg (by simpa using e)]
    have : x.natAbs.log2 < n := (Nat.log2_lt (by omega)).mpr h
    omega
theorem bits_step {g c : Int} {n k : Nat} (g0 : 0 ≤ g) (hg : Builtin.Int.intBits g ≤ n) (hc : Builtin.Int.intBits c ≤ n) : Builtin.Int.intBits (g * 2 ^ k + ab c) ≤ n + k + 1 := by
  refine lt_bits ?_
  have h1 := bits_lt hg
  have h2 := bits_lt hc
  have h3 : (g * 2 ^ k).natAbs < 2 ^ (n + k) := by
    rw [Int.natAbs_mul, Nat.pow_add, show ((2 : Int) ^ k).natAbs = 2 ^ k by rw [Int.natAbs_pow]; rfl]
    exact Nat.mul_lt_mul_of_pos_right h1 (Nat.two_pow_pos k)
  have h4 : (ab c).natAbs < 2 ^ (n + k) := by
    rw [ab_nat]
    exact Nat.lt_of_lt_of_le h2 (Nat.pow_le_pow_right (by decide) (by omega))
  rw [Nat.pow_succ]
  have := Int.natAbs_add_le (g * 2 ^ k) (ab c)
  omega
def DeckB (H : Hp) (d : Addr) (n : Nat) : Prop := ∃ g x k : Int, H d = some (.lst [.int g, .int x, .int k]) ∧ 0 ≤ g ∧ 0 ≤ x ∧ x < 2000000000 ∧ 0 ≤ k ∧ k ≤ (n : Int)
theorem DeckB.mono {H : Hp} {d : Addr} {n m : Nat} (h : DeckB H d n) (l : n ≤ m) : DeckB H d m := by
  obtain ⟨g, x, k, a1, a2, a3, a4, a5, a6⟩ := h
  exact ⟨g, x, k, a1, a2, a3, a4, a5, by omega⟩
theorem DeckB.same {H H' : Hp} {d : Addr} {n : Nat} (h : DeckB H d n) (s : Same H H') : DeckB H' d n := by
  obtain ⟨g, x, k, a1, a2⟩ := h
  exact ⟨g, x, k, s _ _ a1, a2⟩
theorem DeckB.ne {H : Hp} {d p : Addr} {n : Nat} (h : DeckB H d n) (e : H p = none) : p ≠ d := by
  obtain ⟨g, x, k, a1, _⟩ := h
  intro z
  rw [z, a1] at e
  cases e
theorem DeckB.ne_tup {H : Hp} {d p : Addr} {n : Nat} {xs : List V} (h : DeckB H d n) (e : H p = some (.tup xs)) : p ≠ d := by
  obtain ⟨g, x, k, a1, _⟩ := h
  intro z
  rw [z, a1] at e
  cases e
theorem DeckB.nohd {H : Hp} {d : Addr} {n : Nat} (h : DeckB H d n) : ∀ c, ¬ At H d c := fun c hc => by
  obtain ⟨g, x, k, a1, _⟩ := h
  obtain ⟨_, e⟩ := hc
  rw [a1] at e
  cases e
theorem DeckB.mut {H : Hp} {d L : Addr} {n : Nat} {o : HO} (h : DeckB H d n) (ne : L ≠ d) : DeckB (upd H L o) d n := by
  obtain ⟨g, x, k, a1, a2⟩ := h
  exact ⟨g, x, k, by rw [upd_ne (Ne.symm ne)]; exact a1, a2⟩
theorem But.tupB {K : PySem.W.Frag} {H H' : Hp} {d r : Addr} {n : Nat} {xs : List V} (b : But d H H') (D : DeckB H d n) (h : SqT K H r xs) : SqT K H' r xs := by
  obtain ⟨g, x, k, a1, _⟩ := D
  rcases h with (h | ⟨o, h⟩) | h
  · refine .inl (.inl (b _ _ (fun z => ?_) h))
    rw [z, a1] at h
    cases h
  · refine .inl (.inr ⟨o, b _ _ (fun z => ?_) h⟩)
    rw [z, a1] at h
    cases h
  · exact .inr h
def pDeckB (K : PySem.W.Frag) : V → Hp → VK → XK → Prop := fun a H Q _ => ∃ (s : Addr) (xs : List Int), a = .ref s ∧ SqL K H s (xs.map V.int) ∧ xs.length ≤ 63 ∧ (∀ z ∈ xs, Builtin.Int.intBits z ≤ 1048576) ∧ ∀ H' d, Same H H' → H d = none → DeckB H' d 0 → Q (.ref d) H'
def pDrB (c : Nat) : V → V → Hp → VK → XK → Prop := fun a b H Q _ => ∃ (d : Addr) (n : Nat) (m : Int), a = .ref d ∧ b = .int m ∧ 0 < m ∧ m < 1000000000000000000000000000000000000000000 ∧ DeckB H d n ∧ n + c ≤ 100000000 ∧
  ∀ (H' : Hp) (v : Int), But d H H' → DeckB H' d (n + c) → 0 ≤ v → v < m → Q (.int v) H'
def pRuleB : V → V → Hp → VK → XK → Prop := fun a b H Q _ => ∃ (d : Addr) (n : Nat) (m : Int), a = .ref d ∧ b = .int m ∧ (m = 60 ∨ m = 2000) ∧ DeckB H d n ∧ n + 20 ≤ 100000000 ∧
  ∀ (H' : Hp) (r : Addr) (t p b : Int), But d H H' → DeckB H' d (n + 20) → H r = none → H' r = some (.tup [.int t, .int p, .int b]) → Rule t p b → b ≤ m → Q (.ref r) H'
def pRowB (K : PySem.W.Frag) : V → V → V → Hp → VK → XK → Prop := fun a b c H Q _ => ∃ (r : Addr) (t p m s n : Int), a = .ref r ∧ b = .int s ∧ c = .int n ∧ SqT K H r [.int t, .int p, .int m] ∧ Rule t p m ∧ 0 ≤ s ∧ s < m ∧ 0 ≤ n ∧ n ≤ 10000 ∧
  ∀ H' l, Same H H' → H l = none → H' l = some (.lst ((orb (stp t p m) n.toNat s).map V.int)) → Q (.ref l) H'
def pPart : V → V → Hp → VK → XK → Prop := fun a b H Q _ => ∃ (d : Addr) (n : Nat) (m : Int), a = .ref d ∧ b = .int m ∧ 1 ≤ m ∧ m ≤ 1000000000000 ∧ DeckB H d n ∧ n + 5 ≤ 100000000 ∧
  ∀ (H' : Hp) (v : Int), But d H H' → DeckB H' d (n + 5) → 1 ≤ v → v ≤ m + 1000 → Q (.int v) H'
def pNone : V → V → Hp → VK → XK → Prop := fun a b H Q _ => ∃ (d : Addr) (n : Nat) (m : Int), a = .ref d ∧ b = .int m ∧ 1 ≤ m ∧ m ≤ 1000000000000 ∧ DeckB H d n ∧ n + 3 ≤ 100000000 ∧
  ∀ (H' : Hp) (v : Int), But d H H' → DeckB H' d (n + 3) → (v < 0 ∨ m ≤ v) → Q (.int v) H'
/-- alike, of whole numbers or None -/
def pSame1 : V → V → Hp → VK → XK → Prop := fun a b H Q _ => (∃ x y : Int, a = .int x ∧ b = .int y ∧ Q (.bl (decide (x = y))) H) ∨ (a = .non ∧ b = .non ∧ Q (.bl true) H)
/-- alike, of tuples of whole numbers -/
def pSame2 (K : PySem.W.Frag) : V → V → Hp → VK → XK → Prop := fun a b H Q _ => ∃ (p q : Addr) (xs : List Int), a = .ref p ∧ b = .ref q ∧ H p = some (.tup (xs.map V.int)) ∧ H q = some (.tup (xs.map V.int)) ∧ ∀ H', Same H H' → Q (.bl true) H'
end Tw
namespace Tw
open PySem PySem.Spec PyProof.Rows L2
section
variable {P : Program} {w : World} {K : PySem.W.Frag} {mg : Str → Option Value} {base : Heap} {x : Str} {st : Stmt} {N : List Str} {k : Nat}
theorem Top.ok4qX {a b c d : Str} {p : V → V → V → V → Hp → VK → XK → Prop} (D : Top K mg x st [a, b, c, d]) (S : FnScope N [a, b, c, d] (defScope st))
    (hbody : ∀ (f : Addr) (cdv : Value) (A : Around) (outer : List Env) (s : Shared) (H : Hp) (v1 v2 v3 v4 : V) (Q : VK) (E : XK), Room k (A.deeper (envOfC x (defScope st) s.heap.objs.size f cdv)) → p v1 v2 v3 v4 H Q E →
      ∃ t, PSs (cxOf (L2.CX P w) P w K mg base N x (defScope st) f cdv A outer s H E) (defBody st) t ∧ t { nx := fun _ H' => Q .non H', rt := Q } (start N [v1, v2, v3, v4]) H) : Has P w K mg base (L2.CX P w) (k + 1) x [a, b, c, d] (sp4 p) :=
  D.okX S (fun vs H Q E h => by obtain ⟨_, _, _, _, rfl, _⟩ := h; rfl) (fun f cdv A outer s H vs Q E hr h => by obtain ⟨v1, v2, v3, v4, rfl, h⟩ := h; exact hbody f cdv A outer s H v1 v2 v3 v4 Q E hr h)
end
/-- the parts of a row -/
def prts (t p m : Int) (n : Nat) (s pt : Int) : List Int := (orb (stp t p m) n s).map (· / pt)
theorem prts_len (t p m : Int) (n : Nat) (s pt : Int) : (prts t p m n s pt).length = n := by unfold prts; rw [List.length_map, orb_len]
def pParts (K : PySem.W.Frag) (CN : Addr) : V → V → V → V → Hp → VK → XK → Prop := fun a b c e H Q E => ∃ (r : Addr) (t p m s n pt : Int), a = .ref r ∧ b = .int s ∧ c = .int n ∧ e = .int pt ∧ SqT K H r [.int t, .int p, .int m] ∧ Rule t p m ∧ 0 ≤ n ∧ n ≤ 10000 ∧ 1 ≤ pt ∧ pt ≤ 10000000000000 ∧
  (0 ≤ s ∧ s < m → ∀ H' q, Same H H' → H q = none → H' q = some (.tup ((prts t p m n.toNat s pt).map V.int)) → Q (.ref q) H') ∧ (¬ (0 ≤ s ∧ s < m) → Bad CN s H E)
def pTold19 (K : PySem.W.Frag) (CN : Addr) : V → V → V → V → Hp → VK → XK → Prop := fun a b c e H Q _ => ∃ (r : Addr) (t p m s n pt : Int), a = .ref r ∧ b = .int s ∧ c = .int n ∧ e = .int pt ∧ SqT K H r [.int t, .int p, .int m] ∧ Rule t p m ∧ 0 ≤ n ∧ n ≤ 10000 ∧ 1 ≤ pt ∧ pt ≤ 10000000000000 ∧
  (0 ≤ s ∧ s < m → ∀ H' l q, Same H H' → H' l = some (.lst [.ref q, .non]) → H' q = some (.tup ((prts t p m n.toNat s pt).map V.int)) → Q (.ref l) H') ∧
  (¬ (0 ≤ s ∧ s < m) → ∀ H' l x dd, Same H H' → H' l = some (.lst [.non, .ref x]) → H' x = some (exv x (.ref CN) (some dd)) → H' dd = some (.xd [("number", .int s)]) → Q (.ref l) H')
def pIsNumB (CN : Addr) : V → V → Hp → VK → XK → Prop := fun a b H Q _ => ∃ (x dd : Addr) (n : Int), a = .ref x ∧ b = .int n ∧ H x = some (exv x (.ref CN) (some dd)) ∧ H dd = some (.xd [("number", .int n)]) ∧ ∀ H', Same H H' → Q (.bl true) H'
theorem Rule.pos {t p m : Int} (R : Rule t p m) : 0 < m := by have := R.b1; omega
end Tw
namespace Tw
open PySem PySem.Spec PyProof.Rows L2
/-- the row from s shows the parts ks -/
def shB (t p m pt : Int) (ks : List Int) (s : Int) : Bool := decide (∀ i, i < ks.length → itr (stp t p m) i s / pt = ks.getD i 0)
def stL (t p m pt : Int) (ks : List Int) : List Int := ((List.range m.toNat).map fun (k : Nat) => (k : Int)).filter (shB t p m pt ks)
theorem stL_len (t p m pt : Int) (ks : List Int) : (stL t p m pt ks).length ≤ m.toNat := by
  unfold stL
  refine Nat.le_trans (List.length_filter_le _ _) ?_
  rw [List.length_map, List.length_range]
  exact Nat.le_refl _
def pShows (K : PySem.W.Frag) : V → V → V → V → Hp → VK → XK → Prop := fun a b c e H Q _ => ∃ (r sq : Addr) (t p m s pt : Int) (ks : List Int), a = .ref r ∧ b = .int s ∧ c = .ref sq ∧ e = .int pt ∧ SqT K H r [.int t, .int p, .int m] ∧ Rule t p m ∧ 0 ≤ s ∧ s < m ∧ SqT K H sq (ks.map V.int) ∧ 1 ≤ pt ∧ pt ≤ 10000000000000 ∧ Q (.bl (shB t p m pt ks s)) H
/-- the seen may be a list -/
def pShowsL (K : PySem.W.Frag) : V → V → V → V → Hp → VK → XK → Prop := fun a b c e H Q _ => ∃ (r sq : Addr) (t p m s pt : Int) (ks : List Int), a = .ref r ∧ b = .int s ∧ c = .ref sq ∧ e = .int pt ∧ SqT K H r [.int t, .int p, .int m] ∧ Rule t p m ∧ 0 ≤ s ∧ s < m ∧ SqL K H sq (ks.map V.int) ∧ 1 ≤ pt ∧ pt ≤ 10000000000000 ∧ Q (.bl (shB t p m pt ks s)) H
def pStarts (K : PySem.W.Frag) : V → V → V → Hp → VK → XK → Prop := fun a b c H Q _ => ∃ (r sq : Addr) (t p m pt : Int) (ks : List Int), a = .ref r ∧ b = .ref sq ∧ c = .int pt ∧ SqT K H r [.int t, .int p, .int m] ∧ Rule t p m ∧ m ≤ 2000 ∧ SqT K H sq (ks.map V.int) ∧ 1 ≤ pt ∧ pt ≤ 10000000000000 ∧
  ∀ H' q, Same H H' → H q = none → H' q = some (.tup ((stL t p m pt ks).map V.int)) → Q (.ref q) H'
def pSpoil (K : PySem.W.Frag) : V → V → V → V → Hp → VK → XK → Prop := fun a b c e H Q _ => ∃ (d sq : Addr) (n : Nat) (m pt : Int) (ks : List Int), a = .ref d ∧ b = .ref sq ∧ c = .int m ∧ e = .int pt ∧ DeckB H d n ∧ n + 20 ≤ 100000000 ∧ SqT K H sq (ks.map V.int) ∧ 1 ≤ ks.length ∧ ks.length ≤ 60 ∧ 1 ≤ m ∧ m ≤ 1000000000000 ∧ 1 ≤ pt ∧ pt ≤ 10000000000000 ∧
  ∀ H' q (zs : List Int), But d H H' → DeckB H' d (n + 20) → H q = none → H' q = some (.tup (zs.map V.int)) → zs.length = ks.length → Q (.ref q) H'
theorem range_snoc (j : Nat) : (List.range (j + 1)).map (fun (k : Nat) => (k : Int)) = (List.range j).map (fun (k : Nat) => (k : Int)) ++ [(j : Int)] := by
  rw [List.range_succ, List.map_append]
  rfl
theorem shB_nil (t p m pt s : Int) : shB t p m pt [] s = true := decide_eq_true fun i hi => absurd hi (Nat.not_lt_zero _)
/-- all show what a part beyond the bound shows -/
theorem stL_all {t p m pt : Int} (h : m ≤ pt) : stL t p m pt [0] = (List.range m.toNat).map fun (k : Nat) => (k : Int) := by
  unfold stL
  refine List.filter_eq_self.mpr fun s hs => ?_
  obtain ⟨k, hk, rfl⟩ := List.mem_map.mp hs
  have := List.mem_range.mp hk
  refine decide_eq_true fun i hi => ?_
  have e : i = 0 := by simp at hi; omega
  subst e
  show ((k : Int)) / pt = 0
  exact Int.ediv_eq_zero_of_lt (by omega) (by omega)
theorem stL_none {t p m pt : Int} {ks : List Int} (m0 : 0 < m) (p0 : 1 ≤ pt) (h : ∃ i, i < ks.length ∧ (ks.getD i 0 < 0 ∨ m ≤ ks.getD i 0)) : stL t p m pt ks = [] := by
  unfold stL
  refine List.filter_eq_nil_iff.mpr fun s hs z => ?_
  obtain ⟨k, hk, rfl⟩ := List.mem_map.mp hs
  have hk' := List.mem_range.mp hk
  obtain ⟨i, hi, hb⟩ := h
  have e := of_decide_eq_true z i hi
  have r := itr_rng (t := t) (p := p) m0 (s := (k : Int)) ⟨by omega, by omega⟩ i
  have h1 : 0 ≤ itr (stp t p m) i k / pt := Int.ediv_nonneg r.1 (by omega)
  have h2 : itr (stp t p m) i k / pt ≤ itr (stp t p m) i k := Int.ediv_le_self _ r.1
  omega
end Tw

/-! Comprehensions of several clauses: a loop for each depth, told by what a turn does. -/
namespace Tw
open PySem PySem.Spec PyProof.Rows L2

/-- the walk of one clause: each turn's body leads to the next, the last to Nx -/
def walkQ (J : It) (body : V → Hp → (Hp → Prop) → Prop) (H : Hp) (Nx : Hp → Prop) : Prop := ∃ W : Nat → Nat → Hp → Prop, (∃ m, W 0 m H) ∧ ∀ j k H, W j k H →
  (J.stop j H ∧ Nx H) ∨ (J.go j H ∧ ∃ N1 : Hp → Prop, (∀ H', N1 H' → ∃ k', k' < k ∧ W (j + 1) k' H') ∧ ∀ x H', J.yld j H x H' → body x H' N1)
/-- a turn of the last clause -/
def bodyE (g : TG) (tt : TT) (te : TE) (vs : List Nat) (D : Addr) (σ : L2.St) (x : V) (H' : Hp) (N : Hp → Prop) : Prop := g x (wipe σ vs) H' fun σ3 H5 => wipe σ3 vs = wipe σ vs ∧ tt σ3 H5 fun b H6 =>
  if b = true then te σ3 H6 fun y H7 => ∃ acc, H7 D = some (.lst acc) ∧ acc.length < sizeLine ∧ N (upd H7 D (.lst (acc ++ [y]))) else N H6
/-- a turn of a clause with another one behind it -/
def bodyM (g : TG) (tt : TT) (vs : List Nat) (wi1 : TI) (body1 : L2.St → V → Hp → (Hp → Prop) → Prop) (σ : L2.St) (x : V) (H' : Hp) (N : Hp → Prop) : Prop := g x (wipe σ vs) H' fun σ2 H2 => wipe σ2 vs = wipe σ vs ∧ tt σ2 H2 fun b H3 =>
  if b = true then wi1 σ2 H3 fun J1 H4 => walkQ J1 (body1 σ2) H4 N else N H3
def okPost (P : Shared → Prop) : Result → Shared → Prop := fun r s' => match r with
  | .ok _ => P s'
  | .error _ => False
/-- the loop at depth d does what its walk tells -/
def LoopOk (Y : Cx) (e : Expr) (d : Nat) (tg : Expr) (vs : List Nat) (D : Addr) (body : L2.St → V → Hp → (Hp → Prop) → Prop) : Prop :=
  ∀ (pins : List (Addr × Obj)) (σ : L2.St) (H : Hp) (s : Shared) (J : It) (fp : List Addr) (it : Addr) (tn : Nat → Heap → Prop) (Nx : Hp → Prop), Inv Y pins σ H s → Turn Y.prog Y.w Y.K tg J fp it tn → tn 0 s.heap → (∀ b ∈ fp, FpOk Y pins H b) → walkQ J (body σ) H Nx →
    codeAny (model Y.prog Y.w) Y.A (.compLoop e d (.ref it) (.ref D) Y.env) (okPost fun s' => ∃ H', Inv Y pins (wipe σ vs) H' s' ∧ Nx H') s
section
variable {elt : Expr} {gens : List Comprehension} {scope : Scope} {pos : Pos} {d : Nat} {tg iter tg1 iter1 : Expr} {ifs ifs1 : List Expr} {it acc : Value} {env : Env}
theorem turn_last (h0 : gens[d]? = some ⟨tg, iter, ifs, 0⟩) (h1 : gens[d + 1]? = none) : compTurn (.ListComp elt gens scope pos) d it acc env = (do
      standAt iter.pos
      match ← pyNext it with
      | none => pure (.done .next)
      | some v =>
        letOwnedTupleGo tg it v
        assign tg env v
        let mut ok := true
        for c in ifs do
          if ok then ok ← isTrue c env (eval c env)
        if ok then
          (do let _ ← call (.builtin "list.append") [acc, ← eval elt env])
        again (.compLoop (.ListComp elt gens scope pos) d it acc env)) := by
  unfold compTurn
  simp only [h0, h1]
  rfl
theorem turn_mid (h0 : gens[d]? = some ⟨tg, iter, ifs, 0⟩) (h1 : gens[d + 1]? = some ⟨tg1, iter1, ifs1, 0⟩) : compTurn (.ListComp elt gens scope pos) d it acc env = (do
      standAt iter.pos
      match ← pyNext it with
      | none => pure (.done .next)
      | some v =>
        letOwnedTupleGo tg it v
        assign tg env v
        let mut ok := true
        for c in ifs do
          if ok then ok ← isTrue c env (eval c env)
        if ok then
          let x ← eval iter1 env
          standAt iter1.pos
          let x ← foldedSetIterable iter1 env x
          let _ ← runOwn (.compStart (.ListComp elt gens scope pos) (d + 1) (← holding [x] (pyIter x)) acc env) env
        again (.compLoop (.ListComp elt gens scope pos) d it acc env)) := by
  unfold compTurn
  simp only [h0, h1]
  rfl
end
section
variable {Y : Cx} {elt : Expr} {gens : List Comprehension} {scope : Scope} {pos : Pos} {d : Nat} {tg iter tg1 iter1 : Expr} {ifs ifs1 : List Expr} {vs vs1 : List Nat} {D : Addr} {g : TG} {tt : TT} {te : TE}
/-- behind a turn: the iterator stands, the slots are as they were at its start -/
theorem turn_end {pins : List (Addr × Obj)} {σ σ4 : L2.St} {H' : Hp} {s3 s' : Shared} {J : It} {fp : List Addr} {it : Addr} {tn : Nat → Heap → Prop} {j : Nat} (T : Turn Y.prog Y.w Y.K tg J fp it tn) (st : tn (j + 1) s3.heap)
    (I' : Inv Y (pins ++ pinsAt fp s3.heap) σ4 H' s') (hl : (wipe σ vs).length = σ4.length) (hk : ∀ (i : Nat) v, (wipe σ vs)[i]? = some (some v) → σ4[i]? = some (some v)) : Inv Y pins (wipe σ vs) H' s' ∧ tn (j + 1) s'.heap ∧ ∀ b ∈ fp, H' b = none := by
  have pin : ∀ b ∈ fp, ∀ o, s3.heap.get? b = some o → s'.heap.get? b = some o ∧ H' b = none := fun b hb o e =>
    have z := I'.pin (b, o) (List.mem_append_right _ (List.mem_append_right _ (mem_pinsAt hb e)))
    ⟨z.1, z.2.1⟩
  refine ⟨I'.unpinned.weak hl hk, T.keep _ _ _ st fun b hb o e => (pin b hb o e).1, fun b hb => ?_⟩
  obtain ⟨o, e, _⟩ := T.obj _ _ st b hb
  exact (pin b hb o e).2
theorem loop_last (h0 : gens[d]? = some ⟨tg, iter, ifs, 0⟩) (h1 : gens[d + 1]? = none) (hc : Y.calm = true) (hx : Y.xe = fun _ _ => False) (pg : PG Y tg g) (pt : PTs Y ifs tt) (pe : PE Y elt te) : LoopOk Y (.ListComp elt gens scope pos) d tg vs D (bodyE g tt te vs D) := by
  intro pins σ H s J fp it tn Nx I T st f q
  obtain ⟨W, ⟨m0, w0⟩, turn⟩ := q
  have stat : ∀ {H' : Hp}, (∀ b ∈ fp, H' b = none) → ∀ b ∈ fp, FpOk Y pins H' b := fun hn b hb => ⟨hn b hb, (f b hb).2⟩
  refine codeAny_loop rfl (fun n s' => ∃ j H', Inv Y pins (wipe σ vs) H' s' ∧ tn j s'.heap ∧ (∀ b ∈ fp, H' b = none) ∧ W j n H') (fun n s1 hI => ?_) m0 ⟨0, H, I.weak (wipe_length _ _) (fun j v e => (wipe_some e).1), st, fun b hb => (f b hb).1, w0⟩
  obtain ⟨j, H1, I1, st1, n1, w1⟩ := hI
  show wpAny _ Y.A ((compTurn (.ListComp elt gens scope pos) d (.ref it) (.ref D) Y.env).onRaise (fun x => do noteFrame x Y.env; theTreesLotGoes x)) _ _ s1
  refine wpAny_noted ?_
  rw [turn_last h0 h1]
  refine wpAny_bind (wpAny_standAt (wpAny_bind ?_))
  rcases turn j n H1 w1 with ⟨stop, nx⟩ | ⟨go, N1, hN1, step⟩
  · refine thnF (T.done Y rfl rfl rfl hc j pins s1 (wipe σ vs) H1 (fun _ _ => False) I1 (stat n1) st1 stop) fun r s2 hh => ?_
    obtain ⟨hr, I2⟩ := hh
    subst hr
    exact wpAny_pure ⟨H1, I2, nx⟩
  · refine thnF (T.item Y rfl rfl rfl hc j pins s1 (wipe σ vs) H1 (fun _ _ => False) I1 (stat n1) st1 go) fun r s2 hh => ?_
    obtain ⟨u, hr, h2⟩ := hh
    subst hr
    refine wpAny_bind (thnF h2 fun _ s3 hh => ?_)
    obtain ⟨x, H3, I3, r3, y3, st3, n3⟩ := hh
    have I3' := I3.pinned (stat n3) (T.obj _ _ st3)
    refine wpAny_bind (thnF (hx ▸ pg.run _ s3 (wipe σ vs) H3 x u _ I3' r3 (step x H3 y3)) fun _ s4 hh => ?_)
    obtain ⟨σ4, H4, I4, hw4, q4⟩ := hh
    have fin : ∀ {s' : Shared} {H' : Hp}, Inv Y (pins ++ pinsAt fp s3.heap) σ4 H' s' → N1 H' → ∃ m, m < n ∧ ∃ j H', Inv Y pins (wipe σ vs) H' s' ∧ tn j s'.heap ∧ (∀ b ∈ fp, H' b = none) ∧ W j m H' := fun {s' H'} I' nx => by
      obtain ⟨m', hm, w'⟩ := hN1 H' nx
      obtain ⟨a, b, c⟩ := turn_end (σ := σ) (vs := vs) T st3 I' (by rw [← hw4, wipe_length]) (fun i v e => by rw [← hw4] at e; exact (wipe_some e).1)
      exact ⟨m', hm, j + 1, H', a, b, c, w'⟩
    refine wpAny_bind (thnF (hx ▸ pt.run _ s4 σ4 H4 _ I4 q4) fun b s5 hh => ?_)
    obtain ⟨H5, I5, q5⟩ := hh
    cases b with
    | false =>
      simp only [Bool.false_eq_true, if_false] at q5 ⊢
      exact wpAny_pure ⟨rfl, fin I5 q5⟩
    | true =>
      simp only [if_true] at q5 ⊢
      refine wpAny_bind (wpAny_bind (thnF (hx ▸ pe.run _ s5 σ4 H5 _ I5 q5) fun z s6 hh => ?_))
      obtain ⟨yv, H6, I6, r6, ac, hD6, hz6, nx⟩ := hh
      exact wpAny_bind (app_ok (X := Y) I6 hD6 hz6 r6 fun s7 I7 => wpAny_pure (wpAny_pure ⟨rfl, fin I7 nx⟩))
theorem start_at {prog : Program} {w : World} {A : Around} {R : Result → Shared → Prop} {s : Shared} {it acc : Value} {env : Env} (h0 : gens[d]? = some ⟨tg, iter, ifs, 0⟩) (hl : codeAny (model prog w) A (.compLoop (.ListComp elt gens scope pos) d it acc env) R s)
    (h : wpAny (model prog w) A (pyIter it) (fun it' s' => codeAny (model prog w) A (.compLoop (.ListComp elt gens scope pos) d it' acc env) R s') (notedBy (model prog w) A env fun x s' => R (.error x) s') s) :
    codeAny (model prog w) A (.compStart (.ListComp elt gens scope pos) d it acc env) R s := by
  refine codeAny_of_tree ?_
  show wpAny _ _ ((compStart (.ListComp elt gens scope pos) d it acc env).onRaise (fun x => do noteFrame x env; standAt theWindowsPlace)) _ _ s
  refine wpAny_notedAt ?_
  have ec : clausesOf (.ListComp elt gens scope pos) = gens := rfl
  unfold compStart
  rw [ec, h0]
  show wpAny _ _ (ask >>= _) _ _ s
  refine wpAny_bind (wpAny_askSetting (wpAny_ite ?_))
  split
  · exact wpAny_pure ⟨rfl, hl⟩
  · refine wpAny_bind (wpAny_rule ?_)
    exact wpAny_bind (wpAny_standAt (wpAny_bind (wpAny_mono h (fun it' s' h' => wpAny_pure ⟨rfl, h'⟩) fun _ _ x => x)))
theorem loop_mid {wi1 : TI} {body1 : L2.St → V → Hp → (Hp → Prop) → Prop} (h0 : gens[d]? = some ⟨tg, iter, ifs, 0⟩) (h1 : gens[d + 1]? = some ⟨tg1, iter1, ifs1, 0⟩) (hc : Y.calm = true) (hx : Y.xe = fun _ _ => False) (hv : ∀ i ∈ vs1, i ∈ vs) (pg : PG Y tg g) (pt : PTs Y ifs tt) (pi1 : PI Y tg1 iter1 wi1) (hs1 : ∀ x, foldedSetIterable iter1 Y.env x = pure x)
    (inner : LoopOk Y (.ListComp elt gens scope pos) (d + 1) tg1 vs1 D body1) : LoopOk Y (.ListComp elt gens scope pos) d tg vs D (bodyM g tt vs wi1 body1) := by
  intro pins σ H s J fp it tn Nx I T st f q
  obtain ⟨W, ⟨m0, w0⟩, turn⟩ := q
  have stat : ∀ {H' : Hp}, (∀ b ∈ fp, H' b = none) → ∀ b ∈ fp, FpOk Y pins H' b := fun hn b hb => ⟨hn b hb, (f b hb).2⟩
  refine codeAny_loop rfl (fun n s' => ∃ j H', Inv Y pins (wipe σ vs) H' s' ∧ tn j s'.heap ∧ (∀ b ∈ fp, H' b = none) ∧ W j n H') (fun n s1 hI => ?_) m0 ⟨0, H, I.weak (wipe_length _ _) (fun j v e => (wipe_some e).1), st, fun b hb => (f b hb).1, w0⟩
  obtain ⟨j, H1, I1, st1, n1, w1⟩ := hI
  show wpAny _ Y.A ((compTurn (.ListComp elt gens scope pos) d (.ref it) (.ref D) Y.env).onRaise (fun x => do noteFrame x Y.env; theTreesLotGoes x)) _ _ s1
  refine wpAny_noted ?_
  rw [turn_mid h0 h1]
  refine wpAny_bind (wpAny_standAt (wpAny_bind ?_))
  rcases turn j n H1 w1 with ⟨stop, nx⟩ | ⟨go, N1, hN1, step⟩
  · refine thnF (T.done Y rfl rfl rfl hc j pins s1 (wipe σ vs) H1 (fun _ _ => False) I1 (stat n1) st1 stop) fun r s2 hh => ?_
    obtain ⟨hr, I2⟩ := hh
    subst hr
    exact wpAny_pure ⟨H1, I2, nx⟩
  · refine thnF (T.item Y rfl rfl rfl hc j pins s1 (wipe σ vs) H1 (fun _ _ => False) I1 (stat n1) st1 go) fun r s2 hh => ?_
    obtain ⟨u, hr, h2⟩ := hh
    subst hr
    refine wpAny_bind (thnF h2 fun _ s3 hh => ?_)
    obtain ⟨x, H3, I3, r3, y3, st3, n3⟩ := hh
    have I3' := I3.pinned (stat n3) (T.obj _ _ st3)
    refine wpAny_bind (thnF (hx ▸ pg.run _ s3 (wipe σ vs) H3 x u _ I3' r3 (step x H3 y3)) fun _ s4 hh => ?_)
    obtain ⟨σ4, H4, I4, hw4, q4⟩ := hh
    have fin : ∀ {σ5 : L2.St} {s' : Shared} {H' : Hp}, Inv Y (pins ++ pinsAt fp s3.heap) σ5 H' s' → (wipe σ vs).length = σ5.length → (∀ (i : Nat) v, (wipe σ vs)[i]? = some (some v) → σ5[i]? = some (some v)) → N1 H' → ∃ m, m < n ∧ ∃ j H', Inv Y pins (wipe σ vs) H' s' ∧ tn j s'.heap ∧ (∀ b ∈ fp, H' b = none) ∧ W j m H' := fun {σ5 s' H'} I' hl hk nx => by
      obtain ⟨m', hm, w'⟩ := hN1 H' nx
      obtain ⟨a, b, c⟩ := turn_end (σ := σ) (vs := vs) T st3 I' hl hk
      exact ⟨m', hm, j + 1, H', a, b, c, w'⟩
    have l4 : (wipe σ vs).length = σ4.length := by rw [← hw4, wipe_length]
    refine wpAny_bind (thnF (hx ▸ pt.run _ s4 σ4 H4 _ I4 q4) fun b s5 hh => ?_)
    obtain ⟨H5, I5, q5⟩ := hh
    cases b with
    | false =>
      simp only [Bool.false_eq_true, if_false] at q5 ⊢
      exact wpAny_pure ⟨rfl, fin I5 l4 (fun i v e => by rw [← hw4] at e; exact (wipe_some e).1) q5⟩
    | true =>
      simp only [if_true] at q5 ⊢
      refine wpAny_bind (thnF (hx ▸ pi1.run _ s5 σ4 H5 _ I5 q5) fun xv s6 hh => ?_)
      refine wpAny_bind (wpAny_standAt (wpAny_bind (wpAny_of_eq (hs1 xv) (wpAny_bind (wpAny_holding (thnF hh fun itv s7 h7 => ?_))))))
      obtain ⟨it1, fp1, tn1, J1, H7, e1, I7, T1, st7, f7, q7⟩ := h7
      subst e1
      refine wpAny_bind (wpAny_runOwn ?_)
      rw [Around.mark_none]
      have lp := inner (pins ++ pinsAt fp s3.heap) σ4 H7 s7 J1 fp1 it1 tn1 N1 I7 T1 st7 f7 q7
      refine codeAny_mono (start_at h1 lp (T1.self Y.A 0 _ _ _ st7 lp)) fun r s8 hr => ?_
      cases r with
      | ok fl =>
        obtain ⟨H8, I8, nx⟩ := hr
        have z := fin I8 (l4.trans (wipe_length σ4 vs1).symm) (fun i v e => by
          rw [← hw4] at e
          obtain ⟨a1, a2⟩ := wipe_some e
          rw [wipe_out fun y => a2 (hv i y)]
          exact a1) nx
        first
          | exact wpAny_pure ⟨rfl, z⟩
          | exact wpAny_bind (wpAny_pure (wpAny_pure ⟨rfl, z⟩))
      | error e => exact hr.elim
end
end Tw

/-! Comprehensions of several clauses, as a value and stored in a name. -/
namespace Tw
open PySem PySem.Spec PyProof.Rows L2
section
variable {X : Cx} {elt tg iter : Expr} {ifs : List Expr} {rest : List Comprehension} {scope : Scope} {own : List (Str × Nat)} {pos pos' : Pos} {wi : TI} {body : Addr → L2.St → V → Hp → (Hp → Prop) → Prop}
def tLcN (wi : TI) (body : Addr → L2.St → V → Hp → (Hp → Prop) → Prop) (vs : List Nat) : TE := fun σ H Q => wi σ H fun J H1 => ∀ D, H1 D = none → walkQ J (body D (wipe σ vs)) (upd H1 D (.lst [])) (Q (.ref D))
theorem lcN_core {pins : List (Addr × Obj)} {s : Shared} {σ : L2.St} {H : Hp} {Q : VK} {use : Option (Value → Sem Unit)} {Qf : Value → Shared → Prop} (hc : X.calm = true) (hN : X.N.Nodup) (I : Inv X pins σ H s) (hi : PI X tg iter wi) (ok : BlkOk X.N X.env.scope scope own) (hs : ∀ x, foldedSetIterable iter X.env x = pure x)
    (lp : ∀ (s3 : Shared) (H3 : Hp) (C : Addr) (cl : List (Str × Addr)) (fp : List Addr) (D : Addr), LoopOk (X.blk s3 H3 scope (compEnvC scope cl C X.env) fp) (.ListComp elt (⟨tg, iter, ifs, 0⟩ :: rest) scope pos) 0 tg (own.map (·.2)) D (body D))
    (h : tLcN wi body (own.map (·.2)) σ H Q)
    (hR : ∀ D C s' m H', Inv X pins σ H' s' → Q (.ref D) H' → s'.heap.Ns C m → FpOk X pins H' C → compPost (model X.prog X.w) X.A X.xe use Qf (.ref D) C (.ok .next) s') :
    wpAny (model X.prog X.w) X.A (comprehension (.ListComp elt (⟨tg, iter, ifs, 0⟩ :: rest) scope pos) scope X.env pos' (newList []) false (eval iter X.env) use) Qf X.xe s := by
  have hf : ∀ y ∈ scope.names, y.2 = .free → ∃ c, X.env.cells.lookup y.1 = some c := fun y hy e => (ok.free y hy e).elim (fun k => I.ok.has _ (.inl k)) (fun k => I.ok.has _ (.inr k))
  refine wpAny_comprehension_free (use := use) rfl hs (closure_ok hf) ok.kind (fun y hy e => by rw [ok.uniq y hy, e]) (thn (hi.run pins s σ H _ I h) fun xv s1 hx => thn hx fun itv s2 h2 => ?_)
  obtain ⟨it, fp, tn, J, Hb, e, Ib, T, stb, fb, q⟩ := h2
  subst e
  refine wpAny_newObj_type (newEnv_comp ?_) (by show 0 ≤ sizeLine; decide)
  have q' := q s2.heap.objs.size (Ib.hok.fresh (Nat.le_refl _))
  obtain ⟨sc, esc⟩ : ∃ sc : Shared, sc = { s2 with heap := s2.heap.push { cls := .type "list", data := .seq ([] : List Value).toArray } } := ⟨_, rfl⟩
  have hh : sc.heap = s2.heap.push { cls := .type "list", data := .seq ([] : List Value).toArray } := by rw [esc]
  have Ic : Inv X pins σ (upd Hb s2.heap.objs.size (.lst [])) sc := by
    rw [esc]
    exact Ib.laid (t' := s2.toks) (fun b o e => Heap.get?_push_of_some _ e) (Nat.le_refl _) ⟨Nat.zero_le _, [], 0, .nil, Heap.get?_push_size _ rfl⟩
  have small : ∀ b ∈ fp, b < s2.heap.objs.size := fun b hb => by
    obtain ⟨o, e, _⟩ := T.obj _ _ stb b hb
    exact Heap.lt_size e
  have fc : ∀ b ∈ fp, FpOk X pins (upd Hb s2.heap.objs.size (.lst [])) b ∧ b < sc.heap.objs.size := fun b hb => by
    have lt := small b hb
    refine ⟨⟨?_, (fb b hb).2⟩, by rw [hh, Heap.size_push]; exact Nat.lt_succ_of_lt lt⟩
    rw [upd_ne (Nat.ne_of_lt lt)]
    exact (fb b hb).1
  have stc : tn 0 sc.heap := T.keep _ _ _ stb fun b _ o e => by rw [hh]; exact Heap.get?_push_of_some _ e
  have Id := block_start Ic ok hN fc
  have L := lp sc (upd Hb s2.heap.objs.size (.lst [])) sc.heap.objs.size (cellsFrom (sc.heap.objs.size + 1) scope.names (cloFrom X.env.cells scope.names [])) fp s2.heap.objs.size
  rw [← esc]
  obtain ⟨sd, esd⟩ : ∃ sd : Shared, sd = { sc with heap := pushCells (sc.heap.push { cls := .type "dict", data := .dict #[] }) scope.names } := ⟨_, rfl⟩
  have std : tn 0 sd.heap := T.keep _ _ _ stc fun b _ o e => by rw [esd]; exact pushCells_keeps _ _ _ _ (Heap.get?_push_of_some _ e)
  rw [← esd] at Id
  have fd : ∀ b ∈ fp, FpOk (X.blk sc (upd Hb s2.heap.objs.size (.lst [])) scope (compEnvC scope (cellsFrom (sc.heap.objs.size + 1) scope.names (cloFrom X.env.cells scope.names [])) sc.heap.objs.size X.env) fp) [] (upd Hb s2.heap.objs.size (.lst [])) b := fun b hb =>
    ⟨(fc b hb).1.1, (Id.ok.exf b hb).1, Id.ok.exfs b hb, .inl hb, fun x c e => (Id.ok.exf b hb).2 x c e, fun p hp => absurd (show p ∈ ([] : List (Addr × Obj)) ++ [] from hp) (by simp)⟩
  have R := L [] _ _ sd J fp it tn (Q (.ref s2.heap.objs.size)) Id T std fd q'
  have loop : codeAny (model X.prog X.w) X.A (.compLoop (.ListComp elt (⟨tg, iter, ifs, 0⟩ :: rest) scope pos) 0 (.ref it) (.ref s2.heap.objs.size) (compEnvC scope (cellsFrom (sc.heap.objs.size + 1) scope.names (cloFrom X.env.cells scope.names [])) sc.heap.objs.size X.env)) (compPost (model X.prog X.w) X.A X.xe use Qf (.ref s2.heap.objs.size) sc.heap.objs.size) sd := by
    refine codeAny_mono R fun r s' hr => ?_
    cases r with
    | error e => exact hr.elim
    | ok fl =>
      obtain ⟨H', I', qq⟩ := hr
      have I7 : Inv X pins σ H' s' := Ic.call' (ch := fp) I'.os I'.base I'.hok I'.bare fun b hb => ⟨(fc b hb).1.2.2.2.1, (fc b hb).1.2.1, (fc b hb).1.2.2.2.2.1, (fc b hb).1.2.2.2.2.2⟩
      have nC : H' sc.heap.objs.size = none := I'.free
      obtain ⟨m, hn, _⟩ := I'.loc
      have hn' : s'.heap.Ns sc.heap.objs.size m := hn
      have z := hR s2.heap.objs.size sc.heap.objs.size s' m H' I7 qq hn' (Ic.fpOk (Nat.le_refl _) nC)
      cases use with
      | none => exact z
      | some u => exact z
  rw [← esd]
  exact codeAny_compStart_list loop (T.self X.A 0 _ _ _ std loop)
theorem ps_setLcN {i : Nat} {y : Str} {py spos : Pos} (hc : X.calm = true) (hN : X.N.Nodup) (hy : X.N[i]? = some y) (hyl : X.env.scope.names.lookup y = some .local)
    (hsw : swapsWith (.ListComp elt (⟨tg, iter, ifs, 0⟩ :: rest) scope pos) (some (.Name y py)) spos.line X.env = pure true) (hi : PI X tg iter wi) (ok : BlkOk X.N X.env.scope scope own)
    (lp : ∀ (s3 : Shared) (H3 : Hp) (C : Addr) (cl : List (Str × Addr)) (fp : List Addr) (D : Addr), LoopOk (X.blk s3 H3 scope (compEnvC scope cl C X.env) fp) (.ListComp elt (⟨tg, iter, ifs, 0⟩ :: rest) scope pos) 0 tg (own.map (·.2)) D (body D))
    (hs : ∀ x, foldedSetIterable iter X.env x = pure x := by intro _; rfl) : PS X (.Assign [.Name y py] (.ListComp elt (⟨tg, iter, ifs, 0⟩ :: rest) scope pos) spos) (tAsg (tLcN wi body (own.map (·.2))) (gName i)) := by
  refine ⟨fun pins s σ H D I h => ?_⟩
  rw [exec_Assign_Name_used _ _ _ _ hsw]
  refine wpAny_bind (wpAny_standAt (wpAny_bind ?_))
  have h' : tLcN wi body (own.map (·.2)) σ H (fun x H1 => gName i x σ H1 D.nx) := h
  refine wpAny_bind (thn (lcN_core (Qf := fun _ s' => SP X pins D .next s') hc hN I hi ok hs lp h' fun L C s' m H' I' q hn f => ?_) fun _ s' hq => wpAny_pure (wpAny_pure hq))
  show wpAny _ _ (assign (.Name y py) X.env (.ref L)) _ _ _
  refine wpAny_assign_Name (store_ok2 (v := V.ref L) I' hN hy (.inl hyl) rfl (fun s2 I2 hh => ?_) (.inr hyl))
  obtain ⟨a, sb, ha⟩ := hh
  obtain ⟨f0, f1, f2, f3, f4, f5⟩ := f
  have ne : C ≠ a := by
    rcases ha with z | z
    · rw [z]; exact f1
    · exact fun e => f4 y a z e.symm
  refine ⟨m, hn.sameBut sb ne, fun h3 sb3 => ?_⟩
  exact ⟨_, H', I2.turned (t' := s2.toks) (fun b o hb e => (sb3.2 b hb).trans e) f0 f1 f3 f4 f5, q⟩
end
/-- three clauses -/
theorem loop3 {Y : Cx} {elt t0 i0 t1 i1 t2 i2 : Expr} {f0 f1 f2 : List Expr} {scope : Scope} {pos : Pos} {D : Addr} {g0 g1 g2 : TG} {tt0 tt1 tt2 : TT} {te : TE} {wi1 wi2 : TI} {vs vs1 vs2 : List Nat} (hc : Y.calm = true) (hx : Y.xe = fun _ _ => False) (hv1 : ∀ i ∈ vs1, i ∈ vs) (hv2 : ∀ i ∈ vs2, i ∈ vs1)
    (p0 : PG Y t0 g0) (q0 : PTs Y f0 tt0) (r1 : PI Y t1 i1 wi1) (k1 : ∀ x, foldedSetIterable i1 Y.env x = pure x) (p1 : PG Y t1 g1) (q1 : PTs Y f1 tt1) (r2 : PI Y t2 i2 wi2) (k2 : ∀ x, foldedSetIterable i2 Y.env x = pure x) (p2 : PG Y t2 g2) (q2 : PTs Y f2 tt2) (pe : PE Y elt te) :
    LoopOk Y (.ListComp elt [⟨t0, i0, f0, 0⟩, ⟨t1, i1, f1, 0⟩, ⟨t2, i2, f2, 0⟩] scope pos) 0 t0 vs D (bodyM g0 tt0 vs wi1 (bodyM g1 tt1 vs1 wi2 (bodyE g2 tt2 te vs2 D))) :=
  loop_mid (d := 0) rfl rfl hc hx hv1 p0 q0 r1 k1 (loop_mid (d := 1) rfl rfl hc hx hv2 p1 q1 r2 k2 (loop_last (d := 2) rfl rfl hc hx p2 q2 pe))
/-- a walk by a count of turns -/
theorem walkQ_it {J : It} {n : Nat} {G : Hp → Prop} {Yw : Nat → Hp → V → Hp → Prop} (w : Walk J n G Yw) {body : V → Hp → (Hp → Prop) → Prop} {H : Hp} {Nx : Hp → Prop} (Pv : Nat → Hp → Prop) (h0 : Pv 0 H) (hG : ∀ i H, i ≤ n → Pv i H → G H) (hs : ∀ i x H H', i < n → Pv i H → Yw i H x H' → body x H' (Pv (i + 1))) (hd : ∀ H, Pv n H → Nx H) : walkQ J body H Nx := by
  refine ⟨fun i m H => m = n - i ∧ i ≤ n ∧ Pv i H, ⟨n, by simp, Nat.zero_le _, h0⟩, ?_⟩
  rintro i m H ⟨rfl, hi, p⟩
  have q := hG i H hi p
  by_cases hlt : i < n
  · exact .inr ⟨w.goes i H hlt q, Pv (i + 1), fun H' p' => ⟨n - (i + 1), by omega, rfl, hlt, p'⟩, fun x H' y => hs i x H H' hlt p (w.yields i H x H' hlt q y)⟩
  · have e : i = n := by omega
    subst e
    exact .inl ⟨w.stops H q, hd H p⟩
end Tw

/-! Rules with a start, counted, with the first of them. -/
namespace Tw
open PySem PySem.Spec PyProof.Rows L2
theorem pi_tupK {X : Cx} {tg l : Expr} {tl : TE} {K : PySem.W.Frag} (hK : X.K = K) (hl : PE X l tl) : PI X tg l (iTup K tl) := by
  subst hK
  exact pi_tup hl
theorem ps_setLc3 {X : Cx} {elt t0 i0 t1 i1 t2 i2 : Expr} {f0 f1 f2 : List Expr} {scope : Scope} {own : List (Str × Nat)} {pos : Pos} {wi : TI} {g0 g1 g2 : TG} {tt0 tt1 tt2 : TT} {te : TE} {wi1 wi2 : TI} {i : Nat} {y : Str} {py spos : Pos} (vs1 vs2 : List Nat) (hc : X.calm = true) (hN : X.N.Nodup) (hy : X.N[i]? = some y) (hyl : X.env.scope.names.lookup y = some .local)
    (hsw : swapsWith (.ListComp elt [⟨t0, i0, f0, 0⟩, ⟨t1, i1, f1, 0⟩, ⟨t2, i2, f2, 0⟩] scope pos) (some (.Name y py)) spos.line X.env = pure true) (hi : PI X t0 i0 wi) (ok : BlkOk X.N X.env.scope scope own)
    (hv1 : ∀ i ∈ vs1, i ∈ own.map (·.2)) (hv2 : ∀ i ∈ vs2, i ∈ vs1)
    (p0 : ∀ (s3 : Shared) (H3 : Hp) (C : Addr) (cl : List (Str × Addr)) (fp : List Addr), PG (X.blk s3 H3 scope (compEnvC scope cl C X.env) fp) t0 g0) (q0 : ∀ (s3 : Shared) (H3 : Hp) (C : Addr) (cl : List (Str × Addr)) (fp : List Addr), PTs (X.blk s3 H3 scope (compEnvC scope cl C X.env) fp) f0 tt0) (r1 : ∀ (s3 : Shared) (H3 : Hp) (C : Addr) (cl : List (Str × Addr)) (fp : List Addr), PI (X.blk s3 H3 scope (compEnvC scope cl C X.env) fp) t1 i1 wi1) (k1 : ∀ (s3 : Shared) (H3 : Hp) (C : Addr) (cl : List (Str × Addr)) (fp : List Addr), ∀ x, foldedSetIterable i1 (compEnvC scope cl C X.env) x = pure x) (p1 : ∀ (s3 : Shared) (H3 : Hp) (C : Addr) (cl : List (Str × Addr)) (fp : List Addr), PG (X.blk s3 H3 scope (compEnvC scope cl C X.env) fp) t1 g1) (q1 : ∀ (s3 : Shared) (H3 : Hp) (C : Addr) (cl : List (Str × Addr)) (fp : List Addr), PTs (X.blk s3 H3 scope (compEnvC scope cl C X.env) fp) f1 tt1) (r2 : ∀ (s3 : Shared) (H3 : Hp) (C : Addr) (cl : List (Str × Addr)) (fp : List Addr), PI (X.blk s3 H3 scope (compEnvC scope cl C X.env) fp) t2 i2 wi2) (k2 : ∀ (s3 : Shared) (H3 : Hp) (C : Addr) (cl : List (Str × Addr)) (fp : List Addr), ∀ x, foldedSetIterable i2 (compEnvC scope cl C X.env) x = pure x) (p2 : ∀ (s3 : Shared) (H3 : Hp) (C : Addr) (cl : List (Str × Addr)) (fp : List Addr), PG (X.blk s3 H3 scope (compEnvC scope cl C X.env) fp) t2 g2) (q2 : ∀ (s3 : Shared) (H3 : Hp) (C : Addr) (cl : List (Str × Addr)) (fp : List Addr), PTs (X.blk s3 H3 scope (compEnvC scope cl C X.env) fp) f2 tt2) (pe : ∀ (s3 : Shared) (H3 : Hp) (C : Addr) (cl : List (Str × Addr)) (fp : List Addr), PE (X.blk s3 H3 scope (compEnvC scope cl C X.env) fp) elt te)
    (hs : ∀ x, foldedSetIterable i0 X.env x = pure x := by intro _; rfl) : PS X (.Assign [.Name y py] (.ListComp elt [⟨t0, i0, f0, 0⟩, ⟨t1, i1, f1, 0⟩, ⟨t2, i2, f2, 0⟩] scope pos) spos) (tAsg (tLcN wi (fun D => bodyM g0 tt0 (own.map (·.2)) wi1 (bodyM g1 tt1 vs1 wi2 (bodyE g2 tt2 te vs2 D))) (own.map (·.2))) (gName i)) :=
  ps_setLcN hc hN hy hyl hsw hi ok (fun s3 H3 C cl fp D => loop3 hc rfl hv1 hv2 (p0 s3 H3 C cl fp) (q0 s3 H3 C cl fp) (r1 s3 H3 C cl fp) (k1 s3 H3 C cl fp) (p1 s3 H3 C cl fp) (q1 s3 H3 C cl fp) (r2 s3 H3 C cl fp) (k2 s3 H3 C cl fp) (p2 s3 H3 C cl fp) (q2 s3 H3 C cl fp) (pe s3 H3 C cl fp)) hs
def tri1 (b pt : Int) (ks : List Int) (t p : Nat) : List (List Int) := (stL t p b pt ks).map fun s => [(t : Int), (p : Int), s]
def triR (b pt : Int) (ks : List Int) (t : Nat) : List (List Int) := (List.range b.toNat).flatMap (tri1 b pt ks t)
def triA (b pt : Int) (ks : List Int) : List (List Int) := (List.range b.toNat).flatMap (triR b pt ks)
theorem fm_len {f : Nat → List (List Int)} {n c : Nat} (h : ∀ k, (f k).length ≤ c) : ((List.range n).flatMap f).length ≤ n * c := by
  induction n with
  | zero => simp
  | succ n ih =>
    rw [List.range_succ, List.flatMap_append, List.length_append, Nat.succ_mul]
    have : ([n].flatMap f).length ≤ c := by simpa using h n
    omega
theorem fm_snoc (f : Nat → List (List Int)) (n : Nat) : (List.range (n + 1)).flatMap f = (List.range n).flatMap f ++ f n := by
  rw [List.range_succ, List.flatMap_append]
  simp
theorem tri1_len (b pt : Int) (ks : List Int) (t p : Nat) : (tri1 b pt ks t p).length ≤ b.toNat := by
  unfold tri1
  rw [List.length_map]
  exact stL_len ..
theorem triR_len (b pt : Int) (ks : List Int) (t : Nat) : (triR b pt ks t).length ≤ b.toNat * b.toNat := fm_len (tri1_len b pt ks t)
/-- a list of triples: as many, and the first -/
def HdL (H : Hp) (D : Addr) (ts : List (List Int)) : Prop := ∃ as : List Addr, H D = some (.lst (as.map V.ref)) ∧ as.length = ts.length ∧ ∀ a z, as.head? = some a → ts.head? = some z → H a = some (.tup (z.map V.int))
theorem HdL.nil {H : Hp} {D : Addr} (h : H D = some (.lst [])) : HdL H D [] := ⟨[], h, rfl, fun a z e => by cases e⟩
theorem HdL.same {H H' : Hp} {D : Addr} {ts : List (List Int)} (h : HdL H D ts) (s : Same H H') : HdL H' D ts := by
  obtain ⟨as, e, l, f⟩ := h
  exact ⟨as, s _ _ e, l, fun a z x y => s _ _ (f a z x y)⟩
theorem HdL.other {H : Hp} {D E : Addr} {o : HO} {xs : List V} {ts : List (List Int)} (h : HdL H D ts) (hE : H E = some (.lst xs)) (n : D ≠ E) : HdL (upd H E o) D ts := by
  obtain ⟨as, e, l, f⟩ := h
  refine ⟨as, by rw [upd_ne n]; exact e, l, fun a z x y => ?_⟩
  have k := f a z x y
  rw [upd_ne (fun q => by rw [q, hE] at k; cases k)]
  exact k
theorem HdL.push {H : Hp} {D a : Addr} {ts : List (List Int)} {z : List Int} (h : HdL H D ts) (ha : H a = some (.tup (z.map V.int))) : ∃ acc, H D = some (.lst acc) ∧ acc.length = ts.length ∧ HdL (upd H D (.lst (acc ++ [.ref a]))) D (ts ++ [z]) := by
  obtain ⟨as, e, l, f⟩ := h
  refine ⟨_, e, by rw [List.length_map, l], as ++ [a], by rw [upd_same, List.map_append]; rfl, by simp [l], fun b y hb hy => ?_⟩
  have k : H b = some (.tup (y.map V.int)) := by
    cases as with
    | nil =>
      cases ts with
      | nil => simp at hb hy; subst hb hy; exact ha
      | cons _ _ => simp at l
    | cons c as =>
      cases ts with
      | nil => simp at l
      | cons t ts => exact f b y (by simpa using hb) (by simpa using hy)
  rw [upd_ne (fun q => by rw [q, e] at k; cases k)]
  exact k
theorem HdL.ext {H : Hp} {D E : Addr} {ts us : List (List Int)} (h : HdL H D ts) (g : HdL H E us) : ∃ xs zs, H D = some (.lst xs) ∧ H E = some (.lst zs) ∧ xs.length = ts.length ∧ zs.length = us.length ∧ HdL (upd H D (.lst (xs ++ zs))) D (ts ++ us) := by
  obtain ⟨as, e, l, f⟩ := h
  obtain ⟨bs, e2, l2, f2⟩ := g
  refine ⟨_, _, e, e2, by rw [List.length_map, l], by rw [List.length_map, l2], as ++ bs, by rw [upd_same, List.map_append], by simp [l, l2], fun b y hb hy => ?_⟩
  have k : H b = some (.tup (y.map V.int)) := by
    cases as with
    | nil =>
      cases ts with
      | nil => exact f2 b y (by simpa using hb) (by simpa using hy)
      | cons _ _ => simp at l
    | cons c as =>
      cases ts with
      | nil => simp at l
      | cons t ts => exact f b y (by simpa using hb) (by simpa using hy)
  rw [upd_ne (fun q => by rw [q, e] at k; cases k)]
  exact k
/-- the first of a list of triples, or none -/
def Fst (H : Hp) (x : V) (ts : List (List Int)) : Prop := (ts = [] ∧ x = .non) ∨ ∃ a z us, ts = z :: us ∧ x = .ref a ∧ H a = some (.tup (z.map V.int))
theorem Fst.same {H H' : Hp} {x : V} {ts : List (List Int)} (h : Fst H x ts) (s : Same H H') : Fst H' x ts := by
  rcases h with h | ⟨a, z, us, e, e2, k⟩
  · exact .inl h
  · exact .inr ⟨a, z, us, e, e2, s _ _ k⟩
theorem HdL.parts {H : Hp} {D : Addr} {ts : List (List Int)} (h : HdL H D ts) : ∃ xs, H D = some (.lst xs) ∧ xs.length = ts.length ∧ ((ts = [] ∧ xs = []) ∨ ∃ a ys z us, xs = .ref a :: ys ∧ ts = z :: us ∧ H a = some (.tup (z.map V.int))) := by
  obtain ⟨as, e, l, f⟩ := h
  refine ⟨_, e, by rw [List.length_map, l], ?_⟩
  cases as with
  | nil =>
    cases ts with
    | nil => exact .inl ⟨rfl, rfl⟩
    | cons _ _ => simp at l
  | cons c as =>
    cases ts with
    | nil => simp at l
    | cons t ts => exact .inr ⟨c, as.map V.ref, t, ts, rfl, rfl, f c t rfl rfl⟩
def pRulesP (K : PySem.W.Frag) : V → V → V → Hp → VK → XK → Prop := fun a b c H Q _ => ∃ (sq : Addr) (m pt : Int) (ks : List Int), a = .int m ∧ b = .ref sq ∧ c = .int pt ∧ 1 ≤ m ∧ m ≤ 12 ∧ SqT K H sq (ks.map V.int) ∧ 1 ≤ pt ∧ pt ≤ 10000000000000 ∧
  ∀ H' q x, Same H H' → H q = none → H' q = some (.tup [.int ((triA m pt ks).length : Nat), x]) → Fst H' x (triA m pt ks) → Q (.ref q) H'
/-- the seen is a list -/
def pDue22 (K : PySem.W.Frag) : V → V → V → Hp → VK → XK → Prop := fun a b c H Q _ => ∃ (sq : Addr) (m pt : Int) (ks : List Int), a = .int m ∧ b = .ref sq ∧ c = .int pt ∧ 1 ≤ m ∧ m ≤ 12 ∧ H sq = some (.lst (ks.map V.int)) ∧ 1 ≤ pt ∧ pt ≤ 10000000000000 ∧
  ∀ H' q x, Same H H' → H q = none → H' q = some (.tup [.int ((triA m pt ks).length : Nat), x]) → Fst H' x (triA m pt ks) → Q (.ref q) H'
/-- both the same: whole numbers, none, or tuples of them -/
def pSame12 (K : PySem.W.Frag) : V → V → Hp → VK → XK → Prop := fun a b H Q E => pSame1 a b H Q E ∨ pSame2 K a b H Q E
def pSame3 (K : PySem.W.Frag) : V → V → Hp → VK → XK → Prop := fun a b H Q _ => ∃ (p q : Addr) (n : Int) (x y : V) (ts : List (List Int)), a = .ref p ∧ b = .ref q ∧ H p = some (.tup [.int n, x]) ∧ H q = some (.tup [.int n, y]) ∧ Fst H x ts ∧ Fst H y ts ∧ ∀ H', Same H H' → Q (.bl true) H'
theorem triA_len12 {m pt : Int} {ks : List Int} (h : m ≤ 12) : (triA m pt ks).length ≤ 1728 := by
  have a := fm_len (n := m.toNat) (triR_len m pt ks)
  have b : m.toNat ≤ 12 := by omega
  have c : m.toNat * m.toNat ≤ 144 := Nat.mul_le_mul b b
  have d : m.toNat * (m.toNat * m.toNat) ≤ 12 * 144 := Nat.mul_le_mul b c
  exact Nat.le_trans a d
theorem triA_none {m pt : Int} {ks : List Int} (m0 : 0 < m) (p0 : 1 ≤ pt) (h : ∃ i, i < ks.length ∧ (ks.getD i 0 < 0 ∨ m ≤ ks.getD i 0)) : triA m pt ks = [] := by
  have e : ∀ t p : Nat, tri1 m pt ks t p = [] := fun t p => by unfold tri1; rw [stL_none m0 p0 h]; rfl
  have r : ∀ t : Nat, triR m pt ks t = [] := fun t => by
    unfold triR
    exact List.flatMap_eq_nil_iff.mpr fun p _ => e t p
  unfold triA
  exact List.flatMap_eq_nil_iff.mpr fun t _ => r t
theorem fm_const {f : Nat → List (List Int)} {n c : Nat} (h : ∀ k, (f k).length = c) : ((List.range n).flatMap f).length = n * c := by
  induction n with
  | zero => simp
  | succ n ih => rw [fm_snoc, List.length_append, ih, h n, Nat.succ_mul]
theorem triA_all {m pt : Int} (m0 : 0 < m) (h : m ≤ pt) : (((triA m pt [0]).length : Nat) : Int) = m * m * m ∧ ∃ us, triA m pt [0] = [0, 0, 0] :: us := by
  have e : ∀ t p : Nat, (tri1 m pt [0] t p).length = m.toNat := fun t p => by unfold tri1; rw [List.length_map, stL_all h, List.length_map, List.length_range]
  have r : ∀ t : Nat, (triR m pt [0] t).length = m.toNat * m.toNat := fun t => fm_const (e t)
  have a : (triA m pt [0]).length = m.toNat * (m.toNat * m.toNat) := fm_const r
  obtain ⟨k, rfl⟩ := Int.eq_ofNat_of_zero_le (by omega : 0 ≤ m)
  constructor
  · rw [a]
    simp [Int.mul_assoc]
  · obtain ⟨j, rfl⟩ : ∃ j, k = j + 1 := ⟨k - 1, by omega⟩
    unfold triA triR tri1
    rw [show ((j + 1 : Nat) : Int).toNat = j + 1 by omega, List.range_succ_eq_map]
    rw [List.flatMap_cons, List.flatMap_cons, stL_all h, show ((j + 1 : Nat) : Int).toNat = j + 1 by omega, List.range_succ_eq_map]
    exact ⟨_, rfl⟩
theorem shp_cnt (n : Int) : SeqAt.shaped (.tuple [.int n, .tuple [.int 0, .int 0, .int 0]]) = true := rfl
theorem shp_no : SeqAt.shaped (.tuple [.int 0, .none]) = true := rfl
end Tw

/-! Two small words. -/
namespace Tw
open PySem PySem.Spec PyProof.Rows L2
theorem atI_z {cs : List Int} {x : Int} (x0 : 0 ≤ x) (x1 : x < cs.length) : atI (cs.map V.int) x = some (.int (cs.getD x.toNat 0)) := by
  obtain ⟨n, rfl⟩ := Int.eq_ofNat_of_zero_le x0
  have hn : n < cs.length := by omega
  refine atI_nat ?_
  rw [List.getElem?_map, List.getD_eq_getElem?_getD, show ((n : Int)).toNat = n by omega, List.getElem?_eq_getElem hn]
  rfl
theorem ne_frz {H : Hp} {a b : Addr} {o : HO} (e : H a = some o) (n : H b = none) : a ≠ b := fun z => by rw [z, n] at e; cases e
end Tw

/-! Steps from one number to another. -/
namespace Tw
open PySem PySem.Spec PyProof.Rows L2
/-- what steps_to tells of a start and a number -/
def stV (t p m s n : Int) : V := if n ∈ (rndW t p m s).1 then .int (((rndW t p m s).1.idxOf n : Nat) : Int) else .non
def pSteps (K : PySem.W.Frag) (CN : Addr) : V → V → V → Hp → VK → XK → Prop := fun a b c H Q E => ∃ (r : Addr) (t p m s n : Int), a = .ref r ∧ b = .int s ∧ c = .int n ∧ SqT K H r [.int t, .int p, .int m] ∧ Rule t p m ∧ m ≤ 1000000 ∧
  ((0 ≤ s ∧ s < m) → (0 ≤ n ∧ n < m) → ∀ H', Same H H' → Q (stV t p m s n) H') ∧ (¬ (0 ≤ s ∧ s < m) → Bad CN s H E) ∧ ((0 ≤ s ∧ s < m) → ¬ (0 ≤ n ∧ n < m) → Bad CN n H E)
def seenD (ws : List Int) : List (Key × V) := ws.map fun x => (Sum.inl x, V.bl true)
theorem seenD_none : ∀ {ws : List Int} {x : Int}, x ∉ ws → valV (seenD ws) (Sum.inl x) = none
  | [], _, _ => rfl
  | w :: ws, x, h => by
    show valV ((Sum.inl w, V.bl true) :: seenD ws) (Sum.inl x) = none
    rw [valV_neg (fun e => h (by rw [← Sum.inl.inj e]; exact List.mem_cons_self))]
    exact seenD_none (fun hm => h (List.mem_cons_of_mem _ hm))
theorem seenD_some : ∀ {ws : List Int} {x : Int}, x ∈ ws → valV (seenD ws) (Sum.inl x) = some (.bl true)
  | w :: ws, x, h => by
    show valV ((Sum.inl w, V.bl true) :: seenD ws) (Sum.inl x) = _
    by_cases e : w = x
    · subst e
      rw [valV_pos rfl]
    · rw [valV_neg (fun z => e (Sum.inl.inj z)), seenD_some ((List.mem_cons.mp h).resolve_left (fun z => e z.symm))]
theorem seenD_snoc (ws : List Int) (x : Int) : seenD (ws ++ [x]) = seenD ws ++ [(Sum.inl x, V.bl true)] := List.map_append
def pRowL (K : PySem.W.Frag) : V → V → Hp → VK → XK → Prop := fun a b H Q _ => ∃ (r : Addr) (t p m s : Int), a = .ref r ∧ b = .int s ∧ SqT K H r [.int t, .int p, .int m] ∧ Rule t p m ∧ m ≤ 1000000 ∧ 0 ≤ s ∧ s < m ∧
  ∀ H' q, Same H H' → H q = none → H' q = some (.lst ((rndW t p m s).1.map V.int)) → Q (.ref q) H'
def pTold (K : PySem.W.Frag) : V → V → V → Hp → VK → XK → Prop := fun a b c H Q _ => ∃ (r : Addr) (t p m s n : Int), a = .ref r ∧ b = .int s ∧ c = .int n ∧ SqT K H r [.int t, .int p, .int m] ∧ Rule t p m ∧ m ≤ 1000000 ∧
  ((0 ≤ s ∧ s < m) → (0 ≤ n ∧ n < m) → ∀ H' q, Same H H' → H q = none → H' q = some (.lst [stV t p m s n]) → Q (.ref q) H') ∧
  (¬ (0 ≤ s ∧ s < m) → ∀ H' q, Same H H' → H q = none → H' q = some (.tup [.str "number", .int s]) → Q (.ref q) H') ∧
  ((0 ≤ s ∧ s < m) → ¬ (0 ≤ n ∧ n < m) → ∀ H' q, Same H H' → H q = none → H' q = some (.tup [.str "number", .int n]) → Q (.ref q) H')
theorem eqV_int (a b : Int) : eqV (.int a) (.int b) = (a == b) := rfl
theorem flat_ints (ns : List Int) : (ns.map V.int).all flatV = true := by
  rw [List.all_eq_true]
  intro x hx
  obtain ⟨y, _, rfl⟩ := List.mem_map.mp hx
  rfl
theorem inV_ints (n : Int) (ns : List Int) : inV (.int n) (ns.map V.int) = decide (n ∈ ns) := by
  unfold inV
  rw [Bool.eq_iff_iff, List.any_eq_true, decide_eq_true_eq]
  constructor
  · rintro ⟨x, hx, e⟩
    obtain ⟨y, hy, rfl⟩ := List.mem_map.mp hx
    have : y = n := by simpa [eqV_int] using e
    exact this ▸ hy
  · intro h
    exact ⟨.int n, List.mem_map.mpr ⟨n, h, rfl⟩, by simp [eqV_int]⟩
/-- the first place of a number in a list of ints, as index asks it -/
theorem idx_ints {n : Int} {ns : List Int} (h : n ∈ ns) : (ns.map V.int)[ns.idxOf n]? = some (.int n) ∧ ∀ (j : Nat) (z : V), j < ns.idxOf n → (ns.map V.int)[j]? = some z → eqV z (.int n) = false := by
  have hl := List.idxOf_lt_length_of_mem h
  constructor
  · rw [List.getElem?_map, List.getElem?_eq_getElem hl, List.getElem_idxOf hl]
    rfl
  · intro j z hj hz
    rw [List.getElem?_map] at hz
    have jl : j < ns.length := by omega
    rw [List.getElem?_eq_getElem jl] at hz
    obtain rfl : V.int ns[j] = z := Option.some.inj hz
    rw [eqV_int]
    refine beq_eq_false_iff_ne.mpr fun e => ?_
    have := List.not_of_lt_findIdx (p := fun x => x == n) (xs := ns) (i := j) hj
    simp [e] at this
theorem idx_app {n : Int} {ns : List Int} (h : n ∈ ns) : (ns ++ [n]).idxOf n = ns.idxOf n := by
  rw [List.idxOf_append, if_pos h]
end Tw

/-! Rules of my own: set(list of ints), sorted(set) and sorted(d.items()) of any size. -/
namespace Tw
open PySem PySem.Spec PyProof.Rows L2
/-- a set as it is made -/
abbrev noneYet (w : World) : Obj := { cls := .type "set", dict := none, data := .set #[] 0 (.fresh 0 0 (!w.params.followText "set-order")) }
section
variable {P : Program} {w : World} {A : Around} {E : Value → Shared → Prop} {s : Shared}
theorem set_made {q : Addr} {xs : Array Value} (ks : List Int) {Q : Value → Shared → Prop} (nh : A.handled = none) (hq : s.heap.IsList q xs) (hx : IntsAre xs.toList ks) (few : ks.length + 1 < scanBound)
    (go : ∀ (g : Heap) (k c : Nat), SetR w g s.heap.objs.size (fun j => decide (j ∈ ks)) c → (∀ b o, s.heap.get? b = some o → g.get? b = some o) → Q (.ref s.heap.objs.size) { s with heap := g, toks := k }) :
    wpAny (model P w) A (call (.type "set") [.ref q]) Q E s := by
  have sz : xs.size = ks.length := (Array.length_toList (xs := xs)).symm.trans (IntsAre.length hx)
  have at_ : ∀ (i : Nat) (v : Value), xs[i]? = some v → ∃ k t, ks[i]? = some k ∧ v = .int k t := by
    intro i v hv
    have il : i < ks.length := by
      rw [← sz]
      exact (Array.getElem?_eq_some_iff.mp hv).1
    obtain ⟨t, e⟩ := PyProof.Rows.IntsAre.int_at hx i v ((Array.getElem?_toList).trans hv)
    refine ⟨ks[i], t, List.getElem?_eq_getElem il, e.trans ?_⟩
    rw [List.getD_eq_getElem?_getD, List.getElem?_eq_getElem il]
    rfl
  have new0 : (s.heap.push (noneYet w)).get? s.heap.objs.size = some (noneYet w) := Heap.get?_push_size _ rfl
  obtain ⟨_, _, m1⟩ := F.called_set.mro
  have m2 := F.called_set.made
  have m3 := F.called_set.sub
  have m4 := F.called_set.notType
  have m5 := F.called_set.canCreate
  have m6 := F.typeCall_set_1 (.ref q)
  refine wpAny_call (codeAny_of_tree ?_)
  show wpAny _ _ (callAny (.type "set") _) _ _ _
  refine wpAny_pure ⟨Code.quiet_builtin _ (by decide +kernel), codeAny_builtin F.entry_type_call ?_⟩
  rw [Around.under_plain (weight_type_call_type "set" [.ref q] []) rfl]
  repeat (any_goals (first | assumption | wp_step))
  refine codeAny_mono (code_set_led1 (.ref q) (E := E) (Q₁ := fun o s1 => o = .ref s.heap.objs.size ∧ s1 = { s with heap := s.heap.push (noneYet w) }) ⟨rfl, rfl⟩) fun r s1 h1 => ?_
  cases r with
  | error e => exact h1
  | ok fl =>
    cases fl with
    | ret o =>
      obtain ⟨rfl, rfl⟩ := h1
      have ty : Shared.TypeIs { s with heap := s.heap.push (noneYet w) } (.ref s.heap.objs.size) "set" := ⟨_, new0, rfl⟩
      have n1 := F.called_set.init.lookup
      have n2 := F.called_set.init.bind (.ref s.heap.objs.size)
      repeat (any_goals (first | assumption | wp_step))
      refine codeAny_mono (codeAny_call_builtin (R := wants (fun v s2 => v = .none ∧ ∃ g k c, s2 = { s with heap := g, toks := k } ∧ SetR w g s.heap.objs.size (fun j => decide (j ∈ ks)) c ∧ (∀ b o, s.heap.get? b = some o → g.get? b = some o)) E)
        F.called_set.init.plain F.entry_set_init (check_set_init_1 ty ?_)) fun r2 s2 h2 => ?_
      · obtain ⟨⟨oc, od, oa, os⟩, gq, cq, nq, dq⟩ := hq
        simp only at cq dq
        subst cq dq
        have gq1 : (s.heap.push (noneYet w)).get? q = some { cls := .type "list", dict := od, data := .seq xs nq, slots := os } := Heap.get?_push_of_some _ gq
        have u1 := F.sub_list_set
        have u2 := F.sub_list_frozenset
        have u3 : (Value.type "list" == Value.type "dict") = false := by decide
        have lq : (s.heap.push (noneYet w)).IsList q xs := ⟨_, gq1, rfl, nq, rfl⟩
        have below : q < s.heap.objs.size := Heap.lt_size gq
        have sz1 : (s.heap.push (noneYet w)).objs.size = s.heap.objs.size + 1 := Heap.size_push ..
        have nh3 : A.in1.in1.in1.handled = none := by simp [nh]
        unfold Builtin.«set.__init__» noKeywords Builtin.Frozenset.updateFrom
        generalize hIt : pyIter = It
        wp_walk
        subst hIt
        refine wpAny_pyIter_list lq ?_
        refine wpAny_bind (wpAny_runValue ?_)
        have ne1 : q ≠ (s.heap.push (noneYet w)).objs.size := by rw [sz1]; exact Nat.ne_of_lt (Nat.lt_succ_of_lt below)
        have ne2 : s.heap.objs.size ∉ [(s.heap.push (noneYet w)).objs.size, q] := by
          rw [sz1]
          intro z
          rcases List.mem_cons.mp z with z | z
          · omega
          · exact absurd (List.mem_singleton.mp z).symm (Nat.ne_of_lt below)
        refine set_update_ints ((Walks.list nh3 _ q ne1 xs).toS) s.heap.objs.size ne2 ks sz few at_ xs.size 0 _ (by omega) (Nat.zero_le _) ⟨⟨_, Heap.get?_push_size _ rfl, rfl, rfl⟩, lq.push _⟩ ⟨0, Nat.le_refl 0, setR_new_at (Heap.get?_push_of_some _ new0)⟩ ?_
        intro s3 c mv _ R3
        obtain ⟨g, gn, dr, k, ox⟩ := s3
        have e1 : gn = s.gens := mv.gens
        have e2 : dr = s.drawn := mv.drawn
        have e3 : ox = s.os := mv.os
        subst e1 e2 e3
        show wpAny _ _ _ _ _ _
        refine wpAny_pure ?_
        show wpAny _ _ (ret Value.none) _ _ _
        refine wpAny_pure ⟨rfl, g, k, c, rfl, R3, fun b o e => ?_⟩
        have lb := Heap.lt_size e
        refine mv.heap b o (fun z => ?_) (Heap.get?_push_of_some _ (Heap.get?_push_of_some _ e))
        rcases List.mem_cons.mp z with z | z
        · exact absurd z (Nat.ne_of_lt lb)
        · rw [List.mem_singleton, sz1] at z
          exact absurd z (Nat.ne_of_lt (Nat.lt_succ_of_lt lb))
      · cases r2 with
        | error e => exact h2
        | ok fl2 =>
          cases fl2 with
          | ret v =>
            obtain ⟨rfl, g, k, c, rfl, R3, kp⟩ := h2
            repeat (any_goals (first | assumption | wp_step))
            exact go _ _ _ R3 kp
          | _ => exact h2.elim
    | _ => exact h1.elim
end
/-- set(xs), ints -/
def rSetI (K : PySem.W.Frag) (w : World) : List V → Hp → VK → Prop := fun vs H Q => ∃ (l : Addr) (ns : List Int), vs = [.ref l] ∧ SqL K H l (ns.map V.int) ∧ ns.length ≤ 4000 ∧ ∀ p c, H p = none → Q (.ref p) (upd H p (SetO w p (fun j => decide (j ∈ ns)) c))
theorem cr_setI {X : Cx} (hc : X.calm = true) : CallR X (.type "set") (rSetI X.K X.w) := by
  intro pins s σ H vs us Q I r h
  obtain ⟨l, ns, rfl, hs, few, q⟩ := h
  obtain ⟨its, rv, hl, hz⟩ := I.list hs
  rw [Vals.ref1 r]
  refine set_made ns (I.ok.hd hc) hl.isList (by simpa using ints_of_vals rv) (by unfold scanBound; omega) fun g k c R kp => ?_
  exact ⟨.ref _, upd H s.heap.objs.size (SetO X.w s.heap.objs.size (fun j => decide (j ∈ ns)) c), I.laid (t' := k) kp (Nat.le_refl _) (setO_new R), rfl, q _ c (I.hok.fresh (Nat.le_refl _))⟩
/-- sorted(a set of ints) -/
def rSrtSet (w : World) : List V → Hp → VK → Prop := fun vs H Q => ∃ (a : Addr) (S : Int → Bool) (n : Nat), vs = [V.ref a] ∧ H a = some (SetO w a S n) ∧
  ∀ (ns : List Int) (p : Addr), ns.Pairwise (· < ·) → (∀ k : Int, k ∈ ns ↔ S k = true) → ns.length = n → H p = none → Q (.ref p) (upd H p (.lst (ns.map V.int)))
theorem rising {ns : List Int} (h : ns.Pairwise (· ≤ ·)) (nd : ns.Nodup) : ns.Pairwise (· < ·) := by
  rw [List.nodup_iff_pairwise_ne] at nd
  exact (h.and nd).imp fun {a b} z => by have := z.1; have := z.2; omega
theorem cr_srtSet {X : Cx} (hc : X.calm = true) : CallR X (.builtin "sorted") (rSrtSet X.w) := by
  intro pins s σ H vs us Q I r h
  obtain ⟨a, S, n, rfl, ha, q⟩ := h
  obtain ⟨o, es, ep, t, ho, hex, hd, g, nd, hm, hb, hf, hn, hr, hl⟩ := setO_get I ha
  rw [Vals.ref1 r]
  have nlt : n < 4096 := by rw [← hn]; exact hb
  refine Calls.call_function_entry kind_sorted plain_sorted entry_sorted (args_sorted1 _) ?_
  unfold Builtin.«sorted»
  refine wpAny_bind (m := checkCount "sorted" 1 1 _) (wpAny_pure ?_)
  refine wpAny_bind (collect_set (A := X.A.in1) (I.ok.hd hc) ⟨o, ho, hex.1, hd⟩ hf hb hr hl fun s1 us k1 z1 g1 o1 pm => ?_)
  have ul : us.length = n := by rw [pm.length_eq, List.length_map, Array.length_toList]; exact hn
  have ui : ∀ v ∈ us, ∃ i t, v = Value.int i t := fun v hv => by
    obtain ⟨e, he, rfl⟩ := List.mem_map.mp (pm.mem_iff.mp hv)
    obtain ⟨k, tk, h1, _⟩ := g e he
    exact ⟨k, tk, h1⟩
  have hI := SrtO.ints_iv ui
  have pk : (us.map SrtO.iv).Perm (es.toList.map keyOf) := by
    have z := pm.map SrtO.iv
    rw [List.map_map] at z
    refine z.trans (List.Perm.of_eq (List.map_congr_left fun e he => ?_))
    obtain ⟨k, tk, h1, _⟩ := g e he
    show SrtO.iv e.2 = keyOf e
    unfold keyOf
    rw [h1]
    rfl
  refine wpAny_bind (wpAny_newList ?_ (by rw [ul, sizeLine_eq]; omega))
  have top : (s1.heap.push (seqObj "list" us.toArray 0)).get? s1.heap.objs.size = some (seqObj "list" us.toArray 0) := Heap.get?_push_size _ rfl
  refine wpAny_bind (wpAny_holding (wpAny_call_entry slot_list_sort ⟨_, top, rfl⟩ entry_list_sort (SrtO.list_sort_ord SrtO.swo_int top (by rw [ul, sizeLine_eq]; omega) (fun l2 => SrtO.ints_sortable hI l2) fun out h1 h2 => ⟨_, rfl, ?_⟩) (args_list_sort _)))
  obtain ⟨k2, k3, k4⟩ := SrtO.ints_out hI h1 h2
  obtain ⟨c, hcc⟩ := sortedHeap_at (vs := us) (out := out.toArray) top
  have pn := k3.trans pk
  have nn : H s1.heap.objs.size = none := I.hok.fresh z1
  refine wpAny_pure ⟨_, rfl, .ref s1.heap.objs.size, upd H s1.heap.objs.size (.lst ((out.map SrtO.iv).map V.int)), ?_, rfl, q _ _ (rising k4 (pn.nodup_iff.mpr nd)) (fun k => by rw [pn.mem_iff, hm k]) (by rw [pn.length_eq, List.length_map, Array.length_toList]; exact hn) nn⟩
  have kp : ∀ b u, s.heap.get? b = some u → (sortedHeap (s1.heap.push (seqObj "list" us.toArray 0)) s1.heap.objs.size us out.toArray).get? b = some u := fun b u e => by
    have e1 := k1 b u e
    have lb := Heap.lt_size e1
    rw [sortedHeap_old (Nat.ne_of_lt lb) (by rw [size_push']; exact Nat.lt_succ_of_lt lb)]
    exact Heap.get?_push_of_some _ e1
  have J := I.call' (s' := { s1 with heap := sortedHeap (s1.heap.push (seqObj "list" us.toArray 0)) s1.heap.objs.size us out.toArray }) (ch := []) (H' := upd H s1.heap.objs.size (.lst ((out.map SrtO.iv).map V.int))) o1 (Un.laid kp z1 nn) (I.hok.laid kp z1 ⟨by
    rw [List.length_map, pn.length_eq, List.length_map, Array.length_toList, hn, sizeLine_eq]
    omega, out, c, vals_of_ints k2, hcc⟩) (by show AllBare s1.gens; rw [g1]; exact I.bare) (fun _ z => nomatch z)
  exact J
end Tw

/-! sorted(d.items()), ints to ints, of any size. -/
namespace Tw
open PySem PySem.Spec PyProof.Rows L2 L2.DX
def dInts (zs : List (Int × Int)) : List (Key × V) := zs.map fun z => (Sum.inl z.1, V.int z.2)
/-- d.items() -/
def rItemsK : V → List V → Hp → VK → Prop := fun x xs H Q => ∃ (a : Addr) (kvs : List (Key × V)), x = .ref a ∧ xs = [] ∧ H a = some (.dK kvs) ∧ ∀ p, H p = none → Q (.ref p) (upd H p (itemsO p a))
theorem mt_itemsK {X : Cx} : MtR X "dict.items" rItemsK := by
  intro pins s σ H x xs v us Q I rx rxs h
  obtain ⟨a, kvs, rfl, rfl, ha, q⟩ := h
  cases rx
  cases rxs
  obtain ⟨z, hd, ws, kv, o, es, ep, ho, hx, hdat, _⟩ := I.hok a _ ha
  refine DT.callItems (es := es) (ep := ep) hd ⟨o, ho, hx, hdat⟩ ?_
  exact ⟨.ref s.heap.objs.size, _, I.laid (t' := s.toks) (fun b u e => Heap.get?_push_of_some _ e) (Nat.le_refl _) (itemsO_ok (Heap.get?_push_size _ rfl)), rfl, q _ (I.hok.fresh (Nat.le_refl _))⟩
theorem ent_ix {P : Program} {w : World} : ∀ {es : List DictEntry} {vs : List (Key × Value)} {zs : List (Int × Int)}, Pairs (mixKind P w) es vs → KV (dInts zs) vs → ∀ (j : Nat) (e : DictEntry), es[j]? = some e → ∃ z t u, zs[j]? = some z ∧ e.key = .int z.1 t ∧ e.val = .int z.2 u
  | [], _, _, _, _, j, e, h => by simp at h
  | e0 :: es, _, zs, .cons h1 h2 h3, kv, j, e, h => by
    cases zs with
    | nil => cases kv
    | cons z zs =>
      cases kv with
      | cons a b =>
        cases j with
        | zero =>
          obtain rfl : e0 = e := by simpa using h
          obtain ⟨a1, u, a2⟩ := a
          have h1' : keyIs (Sum.inl z.1) e0.key = true := by rw [show (Sum.inl z.1 : Key) = _ from a1]; exact h1
          rcases keyIs_shape h1' with ⟨i, t, e1, e2⟩ | ⟨i, t, e1, e2⟩
          · cases e1
            exact ⟨z, t, u, rfl, e2, h2.trans a2⟩
          · cases e1
        | succ j => exact ent_ix h3 b j e (by simpa using h)
def rSrtIt : List V → Hp → VK → Prop := fun vs H Q => ∃ (p a : Addr) (zs : List (Int × Int)), vs = [.ref p] ∧ H p = some (itemsO p a) ∧ H a = some (.dK (dInts zs)) ∧
  ∀ (H' : Hp) (l : Addr) (ps : List (Addr × (Int × Int))), Same H H' → H l = none → (ps.map (·.2)).Perm zs → (ps.map (·.2)).Pairwise (fun y z => SrtO.lexB z y = false) → H' l = some (.lst (ps.map fun z => V.ref z.1)) → (∀ z ∈ ps, H' z.1 = some (.tup [.int z.2.1, .int z.2.2])) → Q (.ref l) H'
open Classical in
theorem cr_srtItems {X : Cx} (hc : X.calm = true) : CallR X (.builtin "sorted") rSrtIt := by
  intro pins s σ H xs us Q I r h
  obtain ⟨p, a, zs, rfl, hp, ha, q⟩ := h
  rw [Vals.ref1 r]
  have view : s.heap.IsItemsView p a := (I.hok p _ hp).1
  obtain ⟨z, hd, ws, kv, o, es, ep, ho, hx, hdat, _, prs, _⟩ := I.hok a _ ha
  have lz : (dInts zs).length = zs.length := List.length_map ..
  have l1 : zs.length = ws.length := lz.symm.trans (Paired.length kv)
  have l2 : es.size = ws.length := (Array.length_toList (xs := es)).symm.trans prs.length
  rw [lz] at z
  refine DT.sortedI (es := es) (ep := ep) (I.ok.hd hc) view ⟨o, ho, hx, hdat⟩ (by omega) fun g tk as keep more la made => ?_
  have lak : as.length = zs.length := by omega
  have nd : as.Nodup := made.rise.imp fun h => Nat.ne_of_lt h
  -- the pair at each of as
  have pr : ∀ (j : Nat) (b : Addr), as[j]? = some b → ∃ z t u, zs[j]? = some z ∧ g.get? b = some { cls := .type "tuple", data := .seq #[.int z.1 t, .int z.2 u] } := by
    intro j b hj
    obtain ⟨e, he, hg⟩ := made.pairs j b hj
    obtain ⟨z, t, u, hz, e1, e2⟩ := ent_ix prs kv j e (by rw [Array.getElem?_toList]; exact he)
    exact ⟨z, t, u, hz, by rw [hg, e1, e2]⟩
  have one : ∀ b, b ∈ as → ∃ z : Int × Int, Srt.IsPair g (.ref b) z.1 z.2 := by
    intro b hb
    obtain ⟨j, hj⟩ := List.mem_iff_getElem?.mp hb
    obtain ⟨z, t, u, _, hg⟩ := pr j b hj
    exact ⟨z, b, _, t, u, 0, rfl, hg, rfl, rfl⟩
  obtain ⟨k, hk⟩ : ∃ k : Value → Int × Int, ∀ b, b ∈ as → Srt.IsPair g (.ref b) (k (.ref b)).1 (k (.ref b)).2 := by
    refine ⟨fun v => if hv : ∃ z : Int × Int, Srt.IsPair g v z.1 z.2 then hv.choose else (0, 0), fun b hb => ?_⟩
    have hv := one b hb
    show Srt.IsPair g (.ref b) (dite _ _ _ : Int × Int).1 (dite _ _ _ : Int × Int).2
    rw [dif_pos hv]
    exact hv.choose_spec
  have kz : ∀ (j : Nat) (b : Addr), as[j]? = some b → zs[j]? = some (k (.ref b)) := by
    intro j b hj
    obtain ⟨z, t, u, hz, hg⟩ := pr j b hj
    obtain ⟨b', o', t', u', n', e1, e2, e3, e4⟩ := hk b (List.mem_of_getElem? hj)
    cases e1
    rw [hg] at e2
    cases e2
    simp only at e4
    have e5 : k (.ref b) = z := by
      injection e4 with e4 _
      have e6 := congrArg Array.toList e4
      simp at e6
      exact Prod.ext e6.1.1.symm e6.2.1.symm
    rw [e5]
    exact hz
  have mz : as.map (fun b => k (.ref b)) = zs := by
    refine List.ext_getElem? fun j => ?_
    rw [List.getElem?_map]
    cases hj : as[j]? with
    | none =>
      rw [List.getElem?_eq_none_iff] at hj
      rw [List.getElem?_eq_none_iff.mpr (by omega)]
      rfl
    | some b => rw [kz j b hj]; rfl
  -- the sort
  have top : (g.push { cls := .type "list", data := .seq (as.map Value.ref).toArray }).get? g.objs.size = some (seqObj "list" (as.map Value.ref).toArray 0) := Heap.get?_push_size _ rfl
  have up : ∀ b o, g.get? b = some o → (g.push { cls := .type "list", data := .seq (as.map Value.ref).toArray }).get? b = some o := fun b o e => Heap.get?_push_of_some _ e
  have off : ∀ b o, g.get? b = some o → b ≠ g.objs.size := fun b o e => Nat.ne_of_lt (Heap.lt_size e)
  generalize hg2 : g.push { cls := .type "list", data := .seq (as.map Value.ref).toArray } = g2 at top up ⊢
  have isr : ∀ v ∈ as.map Value.ref, ∃ b, b ∈ as ∧ v = .ref b := fun v hv => by
    obtain ⟨b, hb, rfl⟩ := List.mem_map.mp hv
    exact ⟨b, hb, rfl⟩
  refine wpAny_call_entry slot_list_sort ⟨_, top, rfl⟩ entry_list_sort
    (SrtO.list_sort_ord (s := { s with heap := g2, toks := tk }) (SrtO.swo_lex k) top (by rw [List.length_map, lak]; exact z) (fun h2 => SrtO.pairs_sortableO (s := { s with heap := g2, toks := tk }) (by omega) (fun v hv => ?_) fun o e c => ?_) fun out o1 o2 => ⟨.none, rfl, ?_⟩) (args_list_sort _)
  · obtain ⟨b, hb, rfl⟩ := isr v hv
    exact (hk b hb).keeps fun c o e _ => up c o e
  · rw [show g2.get? g.objs.size = _ from top] at e
    cases e
    exact absurd (Value.type.inj c) (by decide)
  · show EP X pins σ Q (.ref g.objs.size) { s with heap := sortedHeap g2 g.objs.size (as.map Value.ref) out.toArray, toks := tk }
    have h3 : ∀ u ∈ out, ∃ b, u = Value.ref b := fun u hu => by
      obtain ⟨b, _, e⟩ := isr u (o2.perm.mem_iff.mp hu)
      exact ⟨b, e⟩
    obtain ⟨bs, rfl⟩ : ∃ bs : List Addr, out = bs.map Value.ref := by
      clear o1 o2
      induction out with
      | nil => exact ⟨[], rfl⟩
      | cons u out ih =>
        obtain ⟨b, rfl⟩ := h3 u List.mem_cons_self
        obtain ⟨bs, rfl⟩ := ih fun v hv => h3 v (List.mem_cons_of_mem _ hv)
        exact ⟨b :: bs, rfl⟩
    have inj : ∀ x y : Addr, Value.ref x = Value.ref y → x = y := fun x y e => by cases e; rfl
    have pb : bs.Perm as := by
      have e := o2.perm.map (fun v => match v with | Value.ref b => b | _ => 0)
      rw [List.map_map, List.map_map] at e
      have id1 : ((fun v => match v with | Value.ref b => b | _ => 0) ∘ Value.ref : Addr → Addr) = id := rfl
      rw [id1, List.map_id, List.map_id] at e
      exact e
    have kF : ∀ b o, b ≠ g.objs.size → g2.get? b = some o → (sortedHeap g2 g.objs.size (as.map Value.ref) (bs.map Value.ref).toArray).get? b = some o := fun b o hb e => (sortedHeap_old hb (Heap.lt_size e)).trans e
    have kS : ∀ b o, s.heap.get? b = some o → (sortedHeap g2 g.objs.size (as.map Value.ref) (bs.map Value.ref).toArray).get? b = some o := fun b o e => kF b o (off _ _ (keep b o e)) (up b o (keep b o e))
    obtain ⟨eF, heF⟩ := sortedHeap_at (vs := as.map Value.ref) (out := (bs.map Value.ref).toArray) top
    have I1 : Inv X pins σ H { s with heap := sortedHeap g2 g.objs.size (as.map Value.ref) (bs.map Value.ref).toArray, toks := tk } := I.kept (t' := tk) kS
    have hn0 : H g.objs.size = none := I.hok.fresh (Nat.le_of_lt more)
    have bl : bs.length = zs.length := pb.length_eq.trans lak
    have I2 : Inv X pins σ (upd H g.objs.size (.lst (bs.map V.ref))) { s with heap := sortedHeap g2 g.objs.size (as.map Value.ref) (bs.map Value.ref).toArray, toks := tk } :=
      I1.take (t' := tk) (fun b ob _ e => e) (I.fpOk (Nat.le_of_lt more) hn0) ⟨by rw [List.length_map, bl]; exact z, bs.map Value.ref, eF, LiI.vals_refs bs, heF⟩
    obtain ⟨H2, I3, gr, qt⟩ := takeT (P := fun b vs => vs = [.int (k (.ref b)).1, .int (k (.ref b)).2]) I as _ I2 nd fun b hb => by
      have hbl : s.heap.objs.size ≤ b := Nat.le_of_lt (made.above b hb)
      obtain ⟨b', o', t', u', n', e1, e2, e3, e4⟩ := hk b hb
      cases e1
      refine ⟨hbl, ?_, _, rfl, fun H3 => ⟨by show 2 ≤ sizeLine; decide, [.int (k (.ref b)).1 t', .int (k (.ref b)).2 u'], .cons ⟨t', rfl⟩ (.cons ⟨u', rfl⟩ .nil), ⟨o', kF _ _ (off _ _ e2) (up _ _ e2), e3, n', e4⟩⟩⟩
      rw [upd_ne (off _ _ e2)]
      exact I.hok.fresh hbl
    refine ⟨.ref g.objs.size, H2, I3, rfl, q H2 g.objs.size (bs.map fun b => (b, k (.ref b))) (fun b o e => gr b o (by rw [upd_ne (ne_of_none e hn0)]; exact e)) hn0 ?_ ?_ ?_ ?_⟩
    · rw [List.map_map]
      have e := pb.map (fun b => k (.ref b))
      rw [mz] at e
      exact e
    · rw [List.map_map, List.pairwise_map]
      have e := o1
      unfold SrtO.Srtd at e
      rw [List.pairwise_map] at e
      exact e
    · rw [List.map_map]
      exact gr _ _ upd_same
    · intro y hy
      obtain ⟨b, hb, rfl⟩ := List.mem_map.mp hy
      obtain ⟨vs, rfl, hH⟩ := qt b (pb.mem_iff.mp hb)
      exact hH
end Tw

/-! Rounds: least periods, how many numbers have each. -/
namespace Tw
open PySem PySem.Spec PyProof.Rows L2
theorem itr_add (f : Int → Int) (a b : Nat) (x : Int) : itr f (a + b) x = itr f a (itr f b x) := by
  induction a with
  | zero => rw [Nat.zero_add]; rfl
  | succ a ih => rw [Nat.add_right_comm]; exact congrArg f ih
theorem itr_one (f : Int → Int) (n : Nat) (x : Int) : itr f n (f x) = itr f (n + 1) x := (itr_add f n 1 x).symm
theorem itr_fix {f : Int → Int} {L : Nat} {x : Int} (h : itr f L x = x) : ∀ n, itr f (L * n) x = x
  | 0 => rfl
  | n + 1 => by rw [Nat.mul_succ, itr_add, h, itr_fix h n]
def Per (f : Int → Int) (L : Nat) (x : Int) : Prop := 0 < L ∧ itr f L x = x ∧ ∀ j, j < L → 0 < j → itr f j x ≠ x
theorem per_uniq {f : Int → Int} {L M : Nat} {x : Int} (h : Per f L x) (g : Per f M x) : L = M := by
  rcases Nat.lt_trichotomy L M with c | c | c
  · exact absurd h.2.1 (g.2.2 L c h.1)
  · exact c
  · exact absurd g.2.1 (h.2.2 M c g.1)
theorem per_ex {f : Int → Int} {x : Int} : ∀ n : Nat, 0 < n → itr f n x = x → ∃ L, L ≤ n ∧ Per f L x := by
  intro n
  induction n using Nat.strongRecOn with
  | ind n ih =>
    intro h0 h
    by_cases c : ∃ j, j < n ∧ 0 < j ∧ itr f j x = x
    · obtain ⟨j, j1, j2, j3⟩ := c
      obtain ⟨L, l1, l2⟩ := ih j j1 j2 j3
      exact ⟨L, by omega, l2⟩
    · exact ⟨n, Nat.le_refl n, h0, h, fun j j1 j2 j3 => c ⟨j, j1, j2, j3⟩⟩
open Classical in
noncomputable def pcnt (f : Int → Int) (ws : List Int) (L : Nat) : Nat := ws.countP fun x => decide (Per f L x)
theorem pcnt_app (f : Int → Int) (ws vs : List Int) (L : Nat) : pcnt f (ws ++ vs) L = pcnt f ws L + pcnt f vs L := List.countP_append ..
theorem pcnt_zero {f : Int → Int} {ws : List Int} {L : Nat} (h : ∀ x ∈ ws, ¬ Per f L x) : pcnt f ws L = 0 := by
  unfold pcnt
  rw [List.countP_eq_zero]
  intro x hx
  simp [h x hx]
theorem pcnt_same {f : Int → Int} {ws vs : List Int} {L : Nat} (n1 : ws.Nodup) (n2 : vs.Nodup) (h : ∀ x, Per f L x → (x ∈ ws ↔ x ∈ vs)) : pcnt f ws L = pcnt f vs L := by
  unfold pcnt
  rw [List.countP_eq_length_filter, List.countP_eq_length_filter]
  refine List.Perm.length_eq ((List.perm_ext_iff_of_nodup (n1.filter _) (n2.filter _)).mpr fun x => ?_)
  rw [List.mem_filter, List.mem_filter]
  simp only [decide_eq_true_eq]
  exact ⟨fun z => ⟨(h x z.2).mp z.1, z.2⟩, fun z => ⟨(h x z.2).mpr z.1, z.2⟩⟩
theorem pcnt_pos {f : Int → Int} {ws : List Int} {L : Nat} : 0 < pcnt f ws L ↔ ∃ x, x ∈ ws ∧ Per f L x := by
  unfold pcnt
  rw [List.countP_pos_iff]
  simp
/-! ### a walk's new numbers -/
theorem orb_cons (f : Int → Int) (n : Nat) (x : Int) : orb f (n + 1) x = x :: orb f n (f x) := by
  unfold orb
  rw [List.range_succ_eq_map, List.map_cons, List.map_map]
  refine congrArg (x :: ·) (List.map_congr_left fun i _ => ?_)
  exact (itr_one f i x).symm
theorem orb_mem {f : Int → Int} {n : Nat} {x y : Int} : y ∈ orb f n x ↔ ∃ i, i < n ∧ itr f i x = y := by
  unfold orb
  simp [List.mem_map, List.mem_range]
theorem wk_form (f : Int → Int) : ∀ (k : Nat) (ws : List Int) (x : Int), ∃ n, n ≤ k ∧ wk f k ws x = (ws ++ orb f n x, itr f n x)
  | 0, ws, x => ⟨0, Nat.le_refl 0, by show (ws, x) = (ws ++ [], x); rw [List.append_nil]⟩
  | k + 1, ws, x => by
    by_cases h : x ∈ ws
    · refine ⟨0, Nat.zero_le _, ?_⟩
      rw [wk_in h]
      show (ws, x) = (ws ++ [], x)
      rw [List.append_nil]
    · obtain ⟨n, hn, e⟩ := wk_form f k (ws ++ [x]) (f x)
      refine ⟨n + 1, by omega, ?_⟩
      rw [wk_out h, e, orb_cons, List.append_assoc, itr_one]
      rfl
/-- closed under steps -/
def Fcl (f : Int → Int) (ws : List Int) : Prop := ∀ a ∈ ws, f a ∈ ws
theorem fcl_itr {f : Int → Int} {ws : List Int} (h : Fcl f ws) {a : Int} (ha : a ∈ ws) : ∀ n, itr f n a ∈ ws
  | 0 => ha
  | n + 1 => h _ (fcl_itr h ha n)
theorem fcl_walk {f : Int → Int} {ws : List Int} {x : Int} {n : Nat} (h : Fcl f ws) (hy : itr f n x ∈ ws ++ orb f n x) : Fcl f (ws ++ orb f n x) := by
  intro a ha
  rcases List.mem_append.mp ha with ha | ha
  · exact List.mem_append_left _ (h a ha)
  · obtain ⟨i, hi, rfl⟩ := orb_mem.mp ha
    by_cases c : i + 1 < n
    · exact List.mem_append_right _ (orb_mem.mpr ⟨i + 1, c, rfl⟩)
    · obtain rfl : n = i + 1 := by omega
      exact hy
theorem orb_inj {f : Int → Int} {ws : List Int} {n : Nat} {x : Int} (nd : (ws ++ orb f n x).Nodup) {i j : Nat} (hi : i < n) (hj : j < n) (e : itr f i x = itr f j x) : i = j := by
  have nd2 := (List.nodup_append.mp nd).2.1
  unfold orb at nd2
  have z : ((List.range n).map fun i => itr f i x)[i]? = ((List.range n).map fun i => itr f i x)[j]? := by
    rw [List.getElem?_map, List.getElem?_map, List.getElem?_range hi, List.getElem?_range hj]
    exact congrArg some e
  exact (List.getElem?_inj (by rw [List.length_map, List.length_range]; exact hi) nd2).mp z
/-- the walk ends in old numbers: none of the new ones comes again -/
theorem walk_old {f : Int → Int} {ws : List Int} {n : Nat} {x : Int} (nd : (ws ++ orb f n x).Nodup) (fc : Fcl f ws) (h : itr f n x ∈ ws) {i : Nat} (hi : i < n) (L : Nat) : ¬ Per f L (itr f i x) := by
  rintro ⟨l0, l1, _⟩
  have e := itr_fix l1 n
  have le : n ≤ L * n := Nat.le_mul_of_pos_left n l0
  rw [← itr_add, show L * n + i = (L * n - (n - i)) + n by omega, itr_add] at e
  have hm : itr f i x ∈ ws := by rw [← e]; exact fcl_itr fc h _
  exact (List.nodup_append.mp nd).2.2 _ hm _ (orb_mem.mpr ⟨i, hi, rfl⟩) rfl
section
variable {f : Int → Int} {ws : List Int} {n j : Nat} {x : Int}
theorem cyc_step (hj : j < n) (h : itr f n x = itr f j x) {i : Nat} (hi : j ≤ i) : itr f (i + (n - j)) x = itr f i x := by
  rw [show i + (n - j) = (i - j) + n by omega, itr_add, h, ← itr_add, show i - j + j = i by omega]
theorem cyc_in (hj : j < n) (h : itr f n x = itr f j x) (i : Nat) : j ≤ i → ∃ k, j ≤ k ∧ k < n ∧ itr f i x = itr f k x := by
  induction i using Nat.strongRecOn with
  | ind i ih =>
    intro hi
    by_cases c : i < n
    · exact ⟨i, hi, c, rfl⟩
    · obtain ⟨k, k1, k2, k3⟩ := ih (i - (n - j)) (by omega) (by omega)
      refine ⟨k, k1, k2, ?_⟩
      rw [← k3, ← cyc_step hj h (i := i - (n - j)) (by omega), show i - (n - j) + (n - j) = i by omega]
theorem walk_tail (nd : (ws ++ orb f n x).Nodup) (hj : j < n) (h : itr f n x = itr f j x) {i : Nat} (hi : i < j) (L : Nat) : ¬ Per f L (itr f i x) := by
  rintro ⟨l0, l1, _⟩
  have e := itr_fix l1 n
  have le : n ≤ L * n := Nat.le_mul_of_pos_left n l0
  rw [← itr_add] at e
  obtain ⟨k, k1, k2, k3⟩ := cyc_in hj h (L * n + i) (by omega)
  have := orb_inj nd k2 (by omega) (k3.symm.trans e)
  omega
theorem walk_cyc (nd : (ws ++ orb f n x).Nodup) (hj : j < n) (h : itr f n x = itr f j x) {i : Nat} (hi : j ≤ i) (hn : i < n) : Per f (n - j) (itr f i x) := by
  refine ⟨by omega, ?_, fun d d1 d0 e => ?_⟩
  · rw [← itr_add, Nat.add_comm]
    exact cyc_step hj h hi
  · rw [← itr_add] at e
    by_cases c : d + i < n
    · have := orb_inj nd c hn e
      omega
    · have e2 : itr f (d + i) x = itr f (d + i - (n - j)) x := by
        have := cyc_step hj h (i := d + i - (n - j)) (by omega)
        rw [show d + i - (n - j) + (n - j) = d + i by omega] at this
        exact this
      have := orb_inj nd (i := d + i - (n - j)) (j := i) (by omega) hn (e2.symm.trans e)
      omega
end
theorem cnt_from (j : Nat) : ∀ n, (List.range n).countP (fun i => decide (j ≤ i)) = n - j
  | 0 => by simp
  | n + 1 => by
    rw [List.range_succ, List.countP_append, cnt_from j n]
    by_cases c : j ≤ n
    · rw [List.countP_cons_of_pos (by simp [c])]
      show n - j + (0 + 1) = n + 1 - j
      omega
    · rw [List.countP_cons_of_neg (by simp [c])]
      show n - j + 0 = n + 1 - j
      omega
theorem pcnt_old {f : Int → Int} {ws : List Int} {n : Nat} {x : Int} (nd : (ws ++ orb f n x).Nodup) (fc : Fcl f ws) (h : itr f n x ∈ ws) (L : Nat) : pcnt f (ws ++ orb f n x) L = pcnt f ws L := by
  rw [pcnt_app, pcnt_zero (ws := orb f n x), Nat.add_zero]
  intro y hy
  obtain ⟨i, hi, rfl⟩ := orb_mem.mp hy
  exact walk_old nd fc h hi L
theorem pcnt_new {f : Int → Int} {ws : List Int} {n j : Nat} {x : Int} (nd : (ws ++ orb f n x).Nodup) (hj : j < n) (h : itr f n x = itr f j x) (L : Nat) : pcnt f (ws ++ orb f n x) L = pcnt f ws L + if L = n - j then n - j else 0 := by
  rw [pcnt_app]
  refine congrArg (pcnt f ws L + ·) ?_
  by_cases c : L = n - j
  · rw [if_pos c, ← cnt_from j n]
    unfold pcnt orb
    rw [List.countP_map]
    refine List.countP_congr fun i hi => ?_
    rw [List.mem_range] at hi
    simp only [Function.comp, decide_eq_true_eq]
    constructor
    · intro z
      refine Nat.le_of_not_lt fun z2 => ?_
      exact walk_tail nd hj h z2 L z
    · intro z
      rw [c]
      exact walk_cyc nd hj h z hi
  · rw [if_neg c]
    refine pcnt_zero fun y hy z => ?_
    obtain ⟨i, hi, rfl⟩ := orb_mem.mp hy
    by_cases d : j ≤ i
    · exact c (per_uniq z (walk_cyc nd hj h d hi))
    · exact walk_tail nd hj h (by omega) L z
/-! ### all numbers of a bound -/
def alls (m : Int) : List Int := (List.range m.toNat).map fun (i : Nat) => (i : Int)
theorem alls_mem {m x : Int} : x ∈ alls m ↔ 0 ≤ x ∧ x < m := by
  unfold alls
  rw [List.mem_map]
  constructor
  · rintro ⟨i, hi, rfl⟩
    rw [List.mem_range] at hi
    omega
  · rintro ⟨h0, h1⟩
    exact ⟨x.toNat, by rw [List.mem_range]; omega, by show ((x.toNat : Nat) : Int) = x; omega⟩
theorem alls_nodup (m : Int) : (alls m).Nodup := by
  unfold alls
  rw [List.nodup_iff_pairwise_ne, List.pairwise_map]
  have := List.nodup_range (n := m.toNat)
  rw [List.nodup_iff_pairwise_ne] at this
  exact this.imp fun {a b} h => by omega
/-- how many numbers have the least period L -/
noncomputable def Nper (f : Int → Int) (m : Int) (L : Nat) : Nat := pcnt f (alls m) L
noncomputable def Crnd (f : Int → Int) (m : Int) (L : Nat) : Int := ((Nper f m L / L : Nat) : Int)
structure Rds (f : Int → Int) (m : Int) (zs : List (Int × Int)) : Prop where
  up : zs.Pairwise fun y z => y.1 < z.1
  mem : ∀ L c : Int, (L, c) ∈ zs ↔ ∃ n : Nat, L = n ∧ 0 < Nper f m n ∧ c = Crnd f m n
theorem up_uniq : ∀ {l k : List (Int × Int)}, l.Pairwise (fun y z => y.1 < z.1) → k.Pairwise (fun y z => y.1 < z.1) → (∀ z, z ∈ l ↔ z ∈ k) → l = k
  | [], [], _, _, _ => rfl
  | [], b :: k, _, _, h => absurd ((h b).mpr List.mem_cons_self) (by simp)
  | a :: l, [], _, _, h => absurd ((h a).mp List.mem_cons_self) (by simp)
  | a :: l, b :: k, h1, h2, h => by
    rw [List.pairwise_cons] at h1 h2
    have e : a = b := by
      rcases List.mem_cons.mp ((h a).mp List.mem_cons_self) with e | e
      · exact e
      · rcases List.mem_cons.mp ((h b).mpr List.mem_cons_self) with e2 | e2
        · exact e2.symm
        · have := h2.1 a e
          have := h1.1 b e2
          omega
    subst e
    refine congrArg (a :: ·) (up_uniq h1.2 h2.2 fun z => ⟨fun hz => ?_, fun hz => ?_⟩)
    · rcases List.mem_cons.mp ((h z).mp (List.mem_cons_of_mem _ hz)) with e | e
      · have := h1.1 z hz
        rw [e] at this
        omega
      · exact e
    · rcases List.mem_cons.mp ((h z).mpr (List.mem_cons_of_mem _ hz)) with e | e
      · have := h2.1 z hz
        rw [e] at this
        omega
      · exact e
theorem Rds.uniq {f : Int → Int} {m : Int} {zs ys : List (Int × Int)} (h : Rds f m zs) (g : Rds f m ys) : zs = ys :=
  up_uniq h.up g.up fun z => (h.mem z.1 z.2).trans (g.mem z.1 z.2).symm
/-- what stands behind all walks -/
theorem nper_of {f : Int → Int} {m : Int} {ws : List Int} (nd : ws.Nodup) (rg : Rng m ws) (h : ∀ x, 0 ≤ x → x < m → (∃ L, Per f L x) → x ∈ ws) (L : Nat) : pcnt f ws L = Nper f m L :=
  pcnt_same nd (alls_nodup m) fun x hx => ⟨fun z => alls_mem.mpr (rg x z), fun z => by
    obtain ⟨a, b⟩ := alls_mem.mp z
    exact h x a b ⟨L, hx⟩⟩
/-! ### numbers that come again -/
theorem pigeon {m : Int} (h : Nat → Int) (hr : ∀ i, 0 ≤ h i ∧ h i < m) : ∃ i j, i < j ∧ h i = h j := by
  refine Classical.byContradiction fun c => ?_
  have nd : ((List.range (m.toNat + 1)).map h).Nodup := by
    rw [List.nodup_iff_pairwise_ne, List.pairwise_map]
    have := List.pairwise_lt_range (n := m.toNat + 1)
    exact this.imp fun {a b} l e => c ⟨a, b, l, e⟩
  have := int_len (m := m) nd fun x hx => by
    obtain ⟨i, _, rfl⟩ := List.mem_map.mp hx
    exact hr i
  rw [List.length_map, List.length_range] at this
  omega
/-- where each is a next one of one of them, each comes again -/
theorem onto_per {f : Int → Int} {m : Int} {l : List Int} (rg : Rng m l) (on : ∀ y ∈ l, ∃ z ∈ l, f z = y) {x : Int} (hx : x ∈ l) : ∃ L, Per f L x := by
  obtain ⟨g, hg⟩ : ∃ g : Int → Int, ∀ y ∈ l, g y ∈ l ∧ f (g y) = y := by
    refine ⟨fun y => if h : ∃ z, z ∈ l ∧ f z = y then h.choose else 0, fun y hy => ?_⟩
    have h : ∃ z, z ∈ l ∧ f z = y := by
      obtain ⟨z, h1, h2⟩ := on y hy
      exact ⟨z, h1, h2⟩
    show dite _ _ _ ∈ l ∧ f (dite _ _ _) = y
    rw [dif_pos h]
    exact h.choose_spec
  have gm : ∀ i, itr g i x ∈ l := fun i => by
    induction i with
    | zero => exact hx
    | succ i ih => exact (hg _ ih).1
  have fg : ∀ i, itr f i (itr g i x) = x := fun i => by
    induction i with
    | zero => rfl
    | succ i ih =>
      rw [← itr_one]
      show itr f i (f (g (itr g i x))) = x
      rw [(hg _ (gm i)).2]
      exact ih
  obtain ⟨i, j, hij, e⟩ := pigeon (m := m) (fun i => itr g i x) fun i => rg _ (gm i)
  have e2 := fg j
  rw [← show itr g i x = itr g j x from e, show j = (j - i) + i by omega, itr_add, fg i] at e2
  obtain ⟨L, _, h⟩ := per_ex (j - i) (by omega) e2
  exact ⟨L, h⟩
theorem per_prev {f : Int → Int} {L : Nat} {x : Int} (h : Per f L x) : ∃ y, f y = x ∧ (∃ n, itr f n x = y) ∧ ∃ M, Per f M y := by
  obtain ⟨h0, h1, _⟩ := h
  obtain ⟨k, rfl⟩ : ∃ k, L = k + 1 := ⟨L - 1, by omega⟩
  refine ⟨itr f k x, h1, ⟨k, rfl⟩, ?_⟩
  have e : itr f (k + 1) (itr f k x) = itr f k x := by rw [← itr_add, Nat.add_comm, itr_add, h1]
  obtain ⟨M, _, hM⟩ := per_ex (k + 1) (by omega) e
  exact ⟨M, hM⟩
end Tw

/-! setdefault of a dict whose keys are tuples. -/
namespace Tw
open PySem PySem.Spec PyProof.Rows L2
section
variable {X : Cx} {pins : List (Addr × Obj)} {σ : L2.St} {H : Hp} {s : Shared} {a b : Addr} {r : Value} {z : V} {k : List Key} {kvs : List (List Key × V)} {A : Around} {E : Value → Shared → Prop}
theorem setd_T {Q : Value → Shared → Prop} (hu : A.units + 1 < cLine) (I : Inv X pins σ H s) (e : H a = some (.dT kvs)) (eb : H b = some (.tup (k.map kV))) (rz : RelV z r) (hl : kvs.length < sizeLine)
    (h1 : ∀ v, valV kvs k = some v → ∀ (u : Value) (t : Shared), Inv X pins σ H t → RelV v u → Q u t)
    (h2 : valV kvs k = none → ∀ (u : Value) (t : Shared), Inv X pins σ (upd H a (.dT (putK kvs k z))) t → RelV z u → Q u t) :
    wpAny (model X.prog X.w) A (call (.builtin "dict.setdefault") [.ref a, .ref b, r]) Q E s := by
  obtain ⟨le, nm, ys, rel, D⟩ := dt_of I.hok e
  have ly : ys.length ≤ sizeLine := by
    have := Paired.length rel
    omega
  have la : (putK kvs k z).length ≤ sizeLine := by
    have := length_putK kvs k z
    omega
  have same := rel.val k
  refine call_meetsIn PySem.F.slot_dict_setdefault D.typeIs PySem.F.entry_dict_setdefault (PySem.F.args_dict_setdefault_3 _ _ _) (meetsH_dict_setdefault (tupleKind (mixKind X.prog X.w)) a b nm r) ⟨tupleKind_room_in1 hu, k, ys, key_of I.hok eb, D, ly, fun p hp => ?_, fun np h' D' sb => ?_⟩
  · rw [hp] at same
    cases ev : valV kvs k with
    | none => rw [ev] at same; exact (show False from same).elim
    | some v =>
      rw [ev] at same
      exact h1 v ev _ _ (I.tok _) same
  · rw [np] at same
    cases ev : valV kvs k with
    | some v => rw [ev] at same; exact (show False from same).elim
    | none =>
      obtain ⟨q, es, ep, g1, g2, g3, g4, _, g5⟩ := D'
      have new : KT (upd H a (.dT (putK kvs k z))) (putK kvs k z) (storedH ys k b r) := KT.keeps (rel.put k eb rz) fun c cs ec => by
        rw [upd_ne (ne_of ec e (fun y => nomatch y))]
        exact ec
      exact h2 ev _ _ (d_write I (by rw [e]; exact True.intro) sb ⟨q, g1⟩ ⟨la, nm, _, new, q, es, ep, g1, g2, g3, g4, g5⟩) rz
end
/-- d.setdefault(t, z), d with tuple keys -/
def tSetdT (td ty tx : TE) : TE := fun σ H Q => td σ H fun x H1 => ∃ a, x = .ref a ∧ IsD H1 a ∧ ty σ H1 fun y H2 => tx σ H2 fun z H3 => ∃ (kvs : List (List Key × V)) (k : List Key) (b : Addr), H3 a = some (.dT kvs) ∧ y = .ref b ∧ H3 b = some (.tup (k.map kV)) ∧ kvs.length < sizeLine ∧
  (∀ v, valV kvs k = some v → Q v H3) ∧ (valV kvs k = none → Q z (upd H3 a (.dT (putK kvs k z))))
theorem pe_setdT {X : Cx} {o e f : Expr} {td ty tx : TE} {apos cpos : Pos} (hu : X.A.units + 1 < cLine) (ho : PE X o td) (he : PE X e ty) (hf : PE X f tx) (m : M2 X o "setdefault" apos e f cpos) : PE X (.Call (.Attribute o "setdefault" apos) [e, f] [] cpos) (tSetdT td ty tx) := by
  refine ⟨fun pins s σ H Q I h => ?_⟩
  have go := ho.run pins s σ H _ I h
  refine wpAny_Call_method m.base m.few m.line PySem.F.plainAttrs_dict PySem.F.slot_dict_setdefault PySem.F.type_dict_setdefault (thn go fun u t ⟨x, H1, J, rx, q⟩ => ?_)
  obtain ⟨a, rfl, d, q⟩ := q
  cases (show u = Value.ref a from rx)
  obtain ⟨w1, w2, _⟩ := isD_at J d
  refine ⟨w1, w2, ?_⟩
  rw [m.trees]
  refine Calls.callWith_builtin rfl (Calls.evalArgs_plain (Calls.spliced_cons (thn (he.run pins t σ H1 _ J q) fun iv t2 ⟨y, H2, J2, ry, q⟩ => ?_)))
  refine Calls.spliced_cons (thn (hf.run pins t2 σ H2 _ J2 q) fun fv t3 ⟨z, H3, J3, rz, q⟩ => Calls.spliced_nil ?_)
  obtain ⟨kvs, k, b, ea, rfl, eb, hl, q1, q2⟩ := q
  cases (show iv = Value.ref b from ry)
  exact setd_T hu J3 ea eb rz hl (fun v hv w4 t4 J4 r4 => ⟨v, _, J4, r4, q1 v hv⟩) fun hn w4 t4 J4 r4 => ⟨z, _, J4, r4, q2 hn⟩
end Tw

/-! Starts that show the same parts: classes, told finer by one part more. -/
namespace Tw
open PySem PySem.Spec PyProof.Rows L2
/-- the same first k parts -/
def EqK (f : Int → Int) (pt : Int) (k : Nat) (x y : Int) : Prop := ∀ i, i < k → itr f i x / pt = itr f i y / pt
def gI (cl : List Int) (x : Int) : Int := cl.getD x.toNat 0
theorem itr_head (f : Int → Int) : ∀ (n : Nat) (x : Int), itr f (n + 1) x = itr f n (f x)
  | 0, x => rfl
  | n + 1, x => by
    show f (itr f (n + 1) x) = f (itr f n (f x))
    rw [itr_head f n x]
theorem eqK_succ {f : Int → Int} {pt : Int} {k : Nat} {x y : Int} : EqK f pt (k + 1) x y ↔ x / pt = y / pt ∧ EqK f pt k (f x) (f y) := by
  constructor
  · intro h
    refine ⟨h 0 (Nat.succ_pos k), fun i hi => ?_⟩
    have := h (i + 1) (by omega)
    rw [itr_head, itr_head] at this
    exact this
  · rintro ⟨h0, h⟩ i hi
    cases i with
    | zero => exact h0
    | succ i =>
      rw [itr_head, itr_head]
      exact h i (by omega)
theorem eqK_mono {f : Int → Int} {pt : Int} {j k : Nat} {x y : Int} (h : EqK f pt k x y) (l : j ≤ k) : EqK f pt j x y := fun i hi => h i (by omega)
/-- once no finer, never finer -/
theorem eqK_stable {f : Int → Int} {pt m : Int} {k : Nat} (fr : ∀ x, 0 ≤ f x ∧ f x < m) (h : ∀ x y, 0 ≤ x → x < m → 0 ≤ y → y < m → EqK f pt k x y → EqK f pt (k + 1) x y) : ∀ j, k ≤ j → ∀ x y, 0 ≤ x → x < m → 0 ≤ y → y < m → EqK f pt k x y → EqK f pt j x y := by
  intro j
  induction j with
  | zero => exact fun l x y _ _ _ _ e => eqK_mono e (by omega)
  | succ j ih =>
    intro l x y x0 x1 y0 y1 e
    by_cases c : k = j + 1
    · rw [← c]; exact e
    · have e1 := eqK_succ.mp (h x y x0 x1 y0 y1 e)
      have a := fr x
      have b := fr y
      exact eqK_succ.mpr ⟨e1.1, ih (by omega) _ _ a.1 a.2 b.1 b.2 e1.2⟩
/-- the classes by k parts -/
structure Cl (f : Int → Int) (pt m : Int) (k : Nat) (cl : List Int) : Prop where
  len : cl.length = m.toNat
  eq : ∀ x y, 0 ≤ x → x < m → 0 ≤ y → y < m → (gI cl x = gI cl y ↔ EqK f pt k x y)
  pos : ∀ x ∈ cl, 0 ≤ x
  cont : ∀ x ∈ cl, ∀ v, 0 ≤ v → v ≤ x → v ∈ cl
def Mx (cl : List Int) (M : Int) : Prop := M ∈ cl ∧ ∀ y ∈ cl, y ≤ M
theorem gI_mem {cl : List Int} {m x : Int} (len : cl.length = m.toNat) (x0 : 0 ≤ x) (x1 : x < m) : gI cl x ∈ cl := by
  unfold gI
  rw [List.getD_eq_getElem?_getD, List.getElem?_eq_getElem (show x.toNat < cl.length by omega)]
  exact List.getElem_mem _
theorem mem_gI {cl : List Int} {m v : Int} (len : cl.length = m.toNat) (h : v ∈ cl) : ∃ x, 0 ≤ x ∧ x < m ∧ gI cl x = v := by
  obtain ⟨i, hi⟩ := List.mem_iff_getElem?.mp h
  have li := (List.getElem?_eq_some_iff.mp hi).1
  refine ⟨(i : Int), by omega, by omega, ?_⟩
  unfold gI
  rw [show ((i : Int)).toNat = i by omega, List.getD_eq_getElem?_getD, hi]
  rfl
/-- as many classes as a finer telling has, or fewer; and if as many, the same -/
theorem cl_finer {f : Int → Int} {pt m M N : Int} {k : Nat} {cl : List Int} (C : Cl f pt m k cl) (hM : Mx cl M) (h : Int → Int) (hr : ∀ x, 0 ≤ x → x < m → 0 ≤ h x ∧ h x ≤ N) (fin : ∀ x y, 0 ≤ x → x < m → 0 ≤ y → y < m → h x = h y → gI cl x = gI cl y) :
    M ≤ N ∧ (M = N → ∀ x y, 0 ≤ x → x < m → 0 ≤ y → y < m → gI cl x = gI cl y → h x = h y) := by
  have M0 := C.pos M hM.1
  have ex : ∀ u : Int, ∃ x, 0 ≤ u → u ≤ M → 0 ≤ x ∧ x < m ∧ gI cl x = u := fun u => by
    by_cases c : 0 ≤ u ∧ u ≤ M
    · obtain ⟨x, h1, h2, h3⟩ := mem_gI C.len (C.cont M hM.1 u c.1 c.2)
      exact ⟨x, fun _ _ => ⟨h1, h2, h3⟩⟩
    · exact ⟨0, fun a b => absurd ⟨a, b⟩ c⟩
  obtain ⟨p, hp⟩ := Classical.axiomOfChoice ex
  have key : ∀ q : Int → Int, (∀ u, 0 ≤ u → u ≤ M → 0 ≤ q u ∧ q u < m ∧ gI cl (q u) = u) → ((alls (M + 1)).map fun u => h (q u)).Nodup ∧ Rng (N + 1) ((alls (M + 1)).map fun u => h (q u)) := fun q hq => by
    constructor
    · unfold alls
      rw [List.map_map]
      refine List.Pairwise.map _ (R := fun (a b : Nat) => a < b ∧ b < (M + 1).toNat) ?_ ?_
      · rintro a b ⟨ab, bl⟩ e
        have ha := hq (a : Int) (by omega) (by omega)
        have hb := hq (b : Int) (by omega) (by omega)
        have := fin _ _ ha.1 ha.2.1 hb.1 hb.2.1 e
        rw [ha.2.2, hb.2.2] at this
        omega
      · refine List.Pairwise.imp_of_mem ?_ (List.pairwise_lt_range (n := (M + 1).toNat))
        intro a b _ hb ab
        exact ⟨ab, List.mem_range.mp hb⟩
    · intro y hy
      obtain ⟨u, hu, rfl⟩ := List.mem_map.mp hy
      obtain ⟨u0, u1⟩ := alls_mem.mp hu
      have hu := hq u u0 (by omega)
      have := hr _ hu.1 hu.2.1
      omega
  have len : ∀ q : Int → Int, ((alls (M + 1)).map fun u => h (q u)).length = (M + 1).toNat := fun q => by
    unfold alls
    rw [List.length_map, List.length_map, List.length_range]
  constructor
  · have k1 := key p hp
    have := int_len k1.1 k1.2
    rw [len] at this
    omega
  · intro eMN x y x0 x1 y0 y1 e
    by_cases ne : h x = h y
    · exact ne
    exfalso
    have xm := gI_mem C.len x0 x1
    have xM := hM.2 _ xm
    have xp := C.pos _ xm
    have hq : ∀ u, 0 ≤ u → u ≤ M → 0 ≤ (fun u => if u = gI cl x then x else p u) u ∧ (fun u => if u = gI cl x then x else p u) u < m ∧ gI cl ((fun u => if u = gI cl x then x else p u) u) = u := fun u u0 u1 => by
      by_cases c : u = gI cl x
      · simp only [if_pos c]
        exact ⟨x0, x1, c.symm⟩
      · simp only [if_neg c]
        exact hp u u0 u1
    have k1 := key _ hq
    have out : h y ∉ (alls (M + 1)).map fun u => h ((fun u => if u = gI cl x then x else p u) u) := fun hm => by
      obtain ⟨u, hu, e2⟩ := List.mem_map.mp hm
      obtain ⟨u0, u1⟩ := alls_mem.mp hu
      have q := hq u u0 (by omega)
      have := fin _ _ q.1 q.2.1 y0 y1 e2
      rw [q.2.2, ← e] at this
      simp only [if_pos this] at e2
      exact ne e2
    have hy := hr y y0 y1
    have := int_len (List.nodup_cons.mpr ⟨out, k1.1⟩) (m := N + 1) (fun z hz => by
      rcases List.mem_cons.mp hz with rfl | hz
      · omega
      · exact k1.2 z hz)
    rw [List.length_cons, len] at this
    omega
/-- all told apart just where there are as many classes as numbers -/
theorem cl_all {f : Int → Int} {pt m M : Int} {k : Nat} {cl : List Int} (m0 : 0 < m) (C : Cl f pt m k cl) (hM : Mx cl M) : M + 1 = m ↔ ∀ x y, 0 ≤ x → x < m → 0 ≤ y → y < m → EqK f pt k x y → x = y := by
  have fin : ∀ x y, 0 ≤ x → x < m → 0 ≤ y → y < m → x = y → gI cl x = gI cl y := fun x y _ _ _ _ e => by rw [e]
  have q := cl_finer C hM (fun x => x) (N := m - 1) (fun x x0 x1 => ⟨x0, by show x ≤ m - 1; omega⟩) fin
  constructor
  · intro e x y x0 x1 y0 y1 h
    exact q.2 (by omega) x y x0 x1 y0 y1 ((C.eq x y x0 x1 y0 y1).mpr h)
  · intro h
    have nd : cl.Nodup := by
      refine List.pairwise_iff_getElem.mpr fun i j hi hj ij e => ?_
      have := h (i : Int) (j : Int) (by omega) (by have := C.len; omega) (by omega) (by have := C.len; omega) ((C.eq _ _ (by omega) (by have := C.len; omega) (by omega) (by have := C.len; omega)).mp (by
        unfold gI
        rw [show ((i : Int)).toNat = i by omega, show ((j : Int)).toNat = j by omega, List.getD_eq_getElem?_getD, List.getD_eq_getElem?_getD, List.getElem?_eq_getElem hi, List.getElem?_eq_getElem hj]
        exact e))
      omega
    have := int_len nd (m := M + 1) (fun x hx => ⟨C.pos x hx, by have := hM.2 x hx; omega⟩)
    have l := C.len
    have := q.1
    omega
/-- alone in its class -/
theorem cl_one {f : Int → Int} {pt m s : Int} {k : Nat} {cl : List Int} (C : Cl f pt m k cl) (s0 : 0 ≤ s) (s1 : s < m) : cl.count (gI cl s) = 1 ↔ ∀ y, 0 ≤ y → y < m → EqK f pt k s y → y = s := by
  have l := C.len
  have es : cl[s.toNat]? = some (gI cl s) := by
    unfold gI
    rw [List.getD_eq_getElem?_getD, List.getElem?_eq_getElem (by omega)]
    rfl
  have sl : s.toNat < cl.length := by omega
  have two : cl = cl.take s.toNat ++ gI cl s :: cl.drop (s.toNat + 1) := by
    have e1 : cl[s.toNat] = gI cl s := by
      rw [List.getElem?_eq_getElem sl] at es
      exact Option.some.inj es
    rw [← e1, List.getElem_cons_drop, List.take_append_drop]
  have cnt' : ∀ v, cl = cl.take s.toNat ++ v :: cl.drop (s.toNat + 1) → cl.count v = (cl.take s.toNat).count v + ((cl.drop (s.toNat + 1)).count v + 1) := fun v hv => by
    have h1 : cl.count v = (cl.take s.toNat ++ v :: cl.drop (s.toNat + 1)).count v := congrArg (List.count v) hv
    rw [h1, List.count_append, List.count_cons_self]
  have cnt := cnt' _ two
  constructor
  · intro h y y0 y1 e
    have e' := (C.eq s y s0 s1 y0 y1).mpr e
    by_cases c : y = s
    · exact c
    exfalso
    have ey : cl[y.toNat]? = some (gI cl s) := by
      rw [e']
      unfold gI
      rw [List.getD_eq_getElem?_getD, List.getElem?_eq_getElem (by omega)]
      rfl
    rcases (show y < s ∨ s < y by omega) with lt | lt
    · have : gI cl s ∈ cl.take s.toNat := List.mem_iff_getElem?.mpr ⟨y.toNat, by rw [List.getElem?_take_of_lt (by omega)]; exact ey⟩
      have := List.count_pos_iff.mpr this
      omega
    · have : gI cl s ∈ cl.drop (s.toNat + 1) := List.mem_iff_getElem?.mpr ⟨y.toNat - (s.toNat + 1), by rw [List.getElem?_drop, show s.toNat + 1 + (y.toNat - (s.toNat + 1)) = y.toNat by omega]; exact ey⟩
      have := List.count_pos_iff.mpr this
      omega
  · intro h
    have n1 : (cl.take s.toNat).count (gI cl s) = 0 := List.count_eq_zero.mpr fun hm => by
      obtain ⟨i, hi⟩ := List.mem_iff_getElem?.mp hm
      have il : i < s.toNat := by
        have := (List.getElem?_eq_some_iff.mp hi).1
        rw [List.length_take] at this
        omega
      rw [List.getElem?_take_of_lt il] at hi
      have := h (i : Int) (by omega) (by omega) ((C.eq s i s0 s1 (by omega) (by omega)).mp (by
        unfold gI at hi ⊢
        rw [show ((i : Int)).toNat = i by omega, List.getD_eq_getElem?_getD (i := i), hi]
        rfl))
      omega
    have n2 : (cl.drop (s.toNat + 1)).count (gI cl s) = 0 := List.count_eq_zero.mpr fun hm => by
      obtain ⟨i, hi⟩ := List.mem_iff_getElem?.mp hm
      rw [List.getElem?_drop] at hi
      have il := (List.getElem?_eq_some_iff.mp hi).1
      have := h ((s.toNat + 1 + i : Nat) : Int) (by omega) (by omega) ((C.eq s _ s0 s1 (by omega) (by omega)).mp (by
        unfold gI at hi ⊢
        rw [show (((s.toNat + 1 + i : Nat) : Int)).toNat = s.toNat + 1 + i by omega, List.getD_eq_getElem?_getD (i := s.toNat + 1 + i), hi]
        rfl))
      omega
    omega
end Tw

/-! A lambda of one parameter, handed to a def that calls it. -/
namespace Tw
open PySem PySem.Spec PyProof.Rows L2 LamX NdefX
/-- the lambda's words, those of a nested def without statements -/
def lamF (X : Cx) (params : Arguments) (scope : Scope) (c : Addr) : NF := ⟨"<lambda>", X.env.qual ++ "<lambda>", params, [], scope, cloFrom X.env.cells scope.names [], c⟩
theorem cells_on {cl : List (Str × Addr)} {fr : List Str} {ws : List (Option V)} {fs : List Addr} {H H' : Hp} {h h' : Heap} (C : CellsAt cl fr ws h H) (un : Un fs [] H H' h h') : CellsAt cl fr ws h' H' := by
  have mv : ∀ {y c v}, cl.lookup y = some c → h.IsCell c v → h'.IsCell c v := fun {y c v} e z => by
    obtain ⟨o, ho, d⟩ := z
    obtain ⟨sl, q⟩ := un.any ho (C.all y c e).1 (by simp)
    exact ⟨_, q, d⟩
  refine ⟨C.len, fun y c e => ?_, C.inj, fun i y e => ?_⟩
  · obtain ⟨n, v, z⟩ := C.all y c e
    have z' := mv e z
    obtain ⟨o, ho, _⟩ := z
    exact ⟨un.free c o ho n (by simp), v, z'⟩
  · obtain ⟨c, e1, k⟩ := C.has i y e
    exact ⟨c, e1, fun v ev => by
      obtain ⟨u, r, z⟩ := k v ev
      exact ⟨u, r, mv e1 z⟩⟩
section
variable {X : Cx} {pins : List (Addr × Obj)} {σ : L2.St} {H : Hp} {s : Shared}
/-- the call of what was handed on, in the def that got it -/
theorem act_lam {Ng : List Str} {qg : Str} {sg : Scope} {g f c' : Addr} {cdg pm ctv : Value} {params : Arguments} {body : Expr} {scope : Scope} {k i : Nat} {a : Str} {Nl ps fr : List Str} {js : List Nat} {te ta : TE} {e : Expr} {p1 p2 : Pos}
    (I : Inv X pins σ H s) (S : NScope Nl ps fr scope) (one : ps.length = 1) (cp : Caps X (cloFrom X.env.cells scope.names []) fr js)
    (hf : s.heap.get? f = some (PySem.W.kla_obj "<lambda>" (X.env.qual ++ "<lambda>") params body scope (cloFrom X.env.cells scope.names []) pm c' ctv)) (hfn : H f = none) (hfr : f ∉ frs X.stack)
    (bind : ∀ (q : Str) (cl : List (Str × Addr)) (pm cv ctv u : Value), bindArgs (PySem.W.kla_fn "<lambda>" q params body scope cl pm cv ctv) ⟨[u], []⟩ = pure (ps.zip [u]))
    (hr : Room (k + 1) (X.A.deeper (envOfC qg sg s.heap.objs.size g cdg)))
    (hbody : ∀ (A : Around) (outer : List Env) (t : Shared) (HZ : Hp), Room k (A.deeper (envF (lamF X params scope c') f t.heap.objs.size)) → PE (ncx C8.CX0 X.prog X.w X.K X.mg X.base Nl (lamF X params scope c') f A outer t HZ C8.E0) body te)
    (hN : Ng[i]? = some a) (hv : Vis sg a) (ha : PE (cxOf C8.CX0 X.prog X.w X.K X.mg X.base Ng qg sg g cdg X.A X.stack s H C8.E0).nox e ta)
    (hd : (a == ("__debug__" : Str)) = false := by decide) (hcd : (a == ("__classdict__" : Str)) = false := by decide)
    (he : starEach [e] (cxOf C8.CX0 X.prog X.w X.K X.mg X.base Ng qg sg g cdg X.A X.stack s H C8.E0).nox.env = (false, eval e (cxOf C8.CX0 X.prog X.w X.K X.mg X.base Ng qg sg g cdg X.A X.stack s H C8.E0).nox.env) :: starEach [] (cxOf C8.CX0 X.prog X.w X.K X.mg X.base Ng qg sg g cdg X.A X.stack s H C8.E0).nox.env := by rfl)
    (hpl : (backTo p2 (starEach [] (cxOf C8.CX0 X.prog X.w X.K X.mg X.base Ng qg sg g cdg X.A X.stack s H C8.E0).nox.env)).any (·.1) = false := by rfl) :
    PE (cxOf C8.CX0 X.prog X.w X.K X.mg X.base Ng qg sg g cdg X.A X.stack s H C8.E0).nox (.Call (.Name a p1) [e] [] p2)
      (fun σZ HZ Q => σZ[i]? = some (some (.ref f)) ∧ ta σZ HZ fun v H1 => H1 c' = some (CodeO c' (X.env.qual ++ "<lambda>")) ∧ te (startF Nl [v] (js.map (slotAt σ))) H1 Q) := by
  refine ⟨fun pz sz σz HZ Q IZ h => ?_⟩
  obtain ⟨hs, ht⟩ := h
  have var := (pe_var (X := (cxOf C8.CX0 X.prog X.w X.K X.mg X.base Ng qg sg g cdg X.A X.stack s H C8.E0).nox) (pos := p1) (i := i) hN hv hd hcd).run pz sz σz HZ (fun v H1 => v = .ref f ∧ H1 = HZ) IZ ⟨.ref f, hs, rfl, rfl⟩
  refine wpAny_Call_Name_kw (thn var fun u t ⟨v, H1, I1, r1, q1⟩ => ?_)
  obtain ⟨rfl, rfl⟩ := q1
  cases (show u = Value.ref f from r1)
  have objAt : ∀ {σ' H' t'}, Inv (cxOf C8.CX0 X.prog X.w X.K X.mg X.base Ng qg sg g cdg X.A X.stack s H C8.E0).nox pz σ' H' t' → t'.heap.get? f = some (PySem.W.kla_obj "<lambda>" (X.env.qual ++ "<lambda>") params body scope (cloFrom X.env.cells scope.names []) pm c' ctv) := fun {σ' H' t'} J => J.base.keep f _ hf hfn hfr (fun z => nomatch (show f ∈ ([] : List Addr) from z))
  have go := (pa_cons (hs := he) ha (pa_nil (X := (cxOf C8.CX0 X.prog X.w X.K X.mg X.base Ng qg sg g cdg X.A X.stack s H C8.E0).nox))).run p2 pz t σz H1 (fun vs H2 => ∃ v, vs = [v] ∧ H2 c' = some (CodeO c' (X.env.qual ++ "<lambda>")) ∧ te (startF Nl [v] (js.map (slotAt σ))) H2 Q) I1
  have ht' : tCons ta tNil σz H1 (fun vs H2 => ∃ v, vs = [v] ∧ H2 c' = some (CodeO c' (X.env.qual ++ "<lambda>")) ∧ te (startF Nl [v] (js.map (slotAt σ))) H2 Q) := by
    have : (fun v H1 => H1 c' = some (CodeO c' (X.env.qual ++ "<lambda>")) ∧ te (startF Nl [v] (js.map (slotAt σ))) H1 Q) = fun v H1 => tNil σz H1 fun vs H2 => ∃ v', v :: vs = [v'] ∧ H2 c' = some (CodeO c' (X.env.qual ++ "<lambda>")) ∧ te (startF Nl [v'] (js.map (slotAt σ))) H2 Q := by
      funext v H2
      refine propext ⟨fun q => ⟨v, rfl, q⟩, fun ⟨v', e1, q⟩ => ?_⟩
      cases e1
      exact q
    rw [this] at ht
    exact ht
  refine PySem.W.callWith_F (first := []) ⟨_, _, _, _, objAt I1⟩ (thn (go ht') fun us t2 ⟨vs, H2, I2, r, w, ew, hc, q⟩ => ⟨⟨_, _, _, _, objAt I2⟩, ?_⟩) he hpl
  subst ew
  obtain ⟨u1, eu, _⟩ := vals1 r
  subst eu
  show wpAny _ _ (call (.ref f) [u1]) _ _ _
  obtain ⟨⟨oc, xs, tk, g1, g2, g3⟩, _, _⟩ := I2.hok c' _ hc
  have C2 : CellsAt (lamF X params scope c').cl fr (js.map (slotAt σ)) t2.heap H2 := cells_on (cells_of I cp) I2.base
  have run : codeAny (model X.prog X.w) (X.A.deeper (envOfC qg sg s.heap.objs.size g cdg)) (.call (.ref f) ⟨[u1], []⟩) (CR C8.CX0 (envOfC qg sg s.heap.objs.size g cdg :: X.stack) X.prog X.w H2 t2 Q C8.E0) t2 := by
    refine PySem.W.kla_callFunE hr.depth (objAt I2) rfl S.co S.gen rfl ⟨c', oc, xs, tk, rfl, g1, g2, g3⟩ ?_
    rw [bind]
    have params : ∀ y ∈ ps.zip [u1], scope.names.lookup y.1 = some .local := fun y hy => S.par y.1 (List.of_mem_zip hy).1
    refine wpAny_pure (wpAny_newFunctionEnv S.nocell params (fun hh ns sb => ⟨I2.nolimit.fresh _ sb, ?_⟩) S.kind)
    have kept : ∀ b o, t2.heap.get? b = some o → hh.get? b = some o := fun b o e => sb.extBut b o (Nat.ne_of_lt (Heap.lt_size e)) (Heap.get?_push_of_some _ e)
    have J : Inv (ncx C8.CX0 X.prog X.w X.K X.mg X.base Nl (lamF X ‹Arguments› scope c') f (X.A.deeper (envOfC qg sg s.heap.objs.size g cdg)) (envOfC qg sg s.heap.objs.size g cdg :: X.stack) t2 H2 C8.E0) [] (startF Nl [w] (js.map (slotAt σ))) H2 { t2 with heap := hh, toks := t2.toks + (ps.zip [u1]).length } := inv_startN (vs := [w]) (us := [u1]) S hr.hd I2.env0 one.symm r C2 ns kept
    refine PySem.W.kla_codeExpr (wpAny_mono ((hbody _ _ t2 H2 (hr.deeper _)).run [] _ _ H2 Q J q) (fun y t3 hy => ?_) fun y t3 hy => hy)
    obtain ⟨y', H3, J3, ry, qy⟩ := hy
    exact ⟨y', H3, J3.os, J3.bare, J3.base, J3.hok, ry, qy⟩
  refine wpAny_call (codeAny_mono run fun res t3 hres => ?_)
  cases res with
  | error e => exact (show False from hres).elim
  | ok fl =>
    cases fl with
    | ret u => exact I2.after hres
    | next => exact False.elim hres
    | brk => exact False.elim hres
    | cont => exact False.elim hres
end
/-- a def of three, the last one called with one: its body by what the call tells -/
def GivesL (P : Program) (w : World) (K : PySem.W.Frag) (mg : Str → Option Value) (base : Heap) (x : Str) (st : Stmt) (Ng : List Str) (a3 : Str) (k : Nat) (TT : V → V → (V → Hp → VK → Prop) → Hp → VK → Prop) : Prop :=
  ∀ (g : Addr) (cdg : Value) (A : Around) (outer : List Env) (s : Shared) (H : Hp) (f : Addr) (v1 v2 : V) (Q : VK) (tl : V → Hp → VK → Prop), Room k (A.deeper (envOfC x (defScope st) s.heap.objs.size g cdg)) →
    (∀ (e : Expr) (ta : TE) (p1 p2 : Pos), PE (cxOf C8.CX0 P w K mg base Ng x (defScope st) g cdg A outer s H C8.E0).nox e ta →
      starEach [e] (cxOf C8.CX0 P w K mg base Ng x (defScope st) g cdg A outer s H C8.E0).nox.env = (false, eval e (cxOf C8.CX0 P w K mg base Ng x (defScope st) g cdg A outer s H C8.E0).nox.env) :: starEach [] (cxOf C8.CX0 P w K mg base Ng x (defScope st) g cdg A outer s H C8.E0).nox.env →
      (backTo p2 (starEach [] (cxOf C8.CX0 P w K mg base Ng x (defScope st) g cdg A outer s H C8.E0).nox.env)).any (·.1) = false →
      PE (cxOf C8.CX0 P w K mg base Ng x (defScope st) g cdg A outer s H C8.E0).nox (.Call (.Name a3 p1) [e] [] p2) (fun σ H Q => σ[2]? = some (some (.ref f)) ∧ ta σ H fun v H1 => tl v H1 Q)) →
    TT v1 v2 tl H Q → ∃ t, PSs (cxOf C8.CX0 P w K mg base Ng x (defScope st) g cdg A outer s H C8.E0).nox (defBody st) t ∧ t { nx := fun _ H' => Q .non H', rt := Q } (L2.start Ng [v1, v2, .ref f]) H
def tLam3 (T : List (Addr × Str)) (q : Str) (TT : V → V → (V → Hp → VK → Prop) → Hp → VK → Prop) (t1 t2 te : TE) (Nl : List Str) (js : List Nat) : TE := fun σ H Q => t1 σ H fun v1 H1 => t2 σ H1 fun v2 H2 => Tabs T H2 ∧ ∀ c' H3, ExtN H2 H3 → Tabs T H3 → H3 c' = some (CodeO c' q) →
  TT v1 v2 (fun v H4 Q4 => H4 c' = some (CodeO c' q) ∧ te (startF Nl [v] (js.map (slotAt σ))) H4 Q4) H3 Q
theorem pe_lam3 {X : Cx} {T : List (Addr × Str)} {TT : V → V → (V → Hp → VK → Prop) → Hp → VK → Prop} {x a1 a2 a3 : Str} {st : Stmt} {Ng Nl ps fr : List Str} {js : List Nat} {c P : Addr} {k j : Nat} {params : Arguments} {body e1 e2 : Expr} {scope : Scope} {t1 t2 te : TE} {p lpos pos : Pos}
    (D : Top X.K X.mg x st [a1, a2, a3]) (hg : Gl X x) (Sg : FnScope Ng [a1, a2, a3] (defScope st)) (hG : GivesL X.prog X.w X.K X.mg X.base x st Ng a3 (k + 1 + j) TT) (hr : Room (k + 1 + j + 1) X.A) (h1 : PE X e1 t1) (h2 : PE X e2 t2)
    (TB : TabB X.base X.mg c P) (hcode : X.env.code = .ref c) (hmT : (P, X.env.qual ++ "<lambda>") ∈ T) (hu : ∀ p ∈ T, p.1 = P → p.2 = X.env.qual ++ "<lambda>") (S : NScope Nl ps fr scope) (one : ps.length = 1) (free : ∀ y ∈ scope.names, y.2 = .free → X.env.scope.names.lookup y.1 = some .cell ∨ X.env.scope.names.lookup y.1 = some .free)
    (hfrs : ∀ y ∈ fr, (y, NameKind.free) ∈ scope.names) (hjs : js.map (fun j => X.N[j]?) = fr.map some) (hdef : defaultsOf params X.env = ([], []))
    (bind : ∀ (q : Str) (cl : List (Str × Addr)) (pm cv ctv u : Value), bindArgs (PySem.W.kla_fn "<lambda>" q params body scope cl pm cv ctv) ⟨[u], []⟩ = pure (ps.zip [u]))
    (hbody : ∀ (c' f : Addr) (A : Around) (outer : List Env) (t : Shared) (HZ : Hp), Room k (A.deeper (envF (lamF X params scope c') f t.heap.objs.size)) → PE (ncx C8.CX0 X.prog X.w X.K X.mg X.base Nl (lamF X params scope c') f A outer t HZ C8.E0) body te)
    (hN : Ng[2]? = some a3) (hv : Vis (defScope st) a3) (hdb : (x == ("__debug__" : Str)) = false := by decide) (hd : (a3 == ("__debug__" : Str)) = false := by decide) (hcd : (a3 == ("__classdict__" : Str)) = false := by decide)
    (all3 : starEach [e1, e2, .Lambda params body scope lpos] X.env = [(false, eval e1 X.env), (false, eval e2 X.env), (false, eval (.Lambda params body scope lpos) X.env)] := by rfl)
    (he : starEach [e1, e2, .Lambda params body scope lpos] X.env = (false, eval e1 X.env) :: starEach [e2, .Lambda params body scope lpos] X.env := by rfl) (hpl : (backTo pos (starEach [e2, .Lambda params body scope lpos] X.env)).any (·.1) = false := by rfl) :
    PE X (.Call (.Name x p) [e1, e2, .Lambda params body scope lpos] [] pos) (tLam3 T (X.env.qual ++ "<lambda>") TT t1 t2 te Nl js) := by
  refine ⟨fun pins s σ H Q I h => ?_⟩
  obtain ⟨g, fd, Fn, hm, bd⟩ := D
  have kp := Fn.kp
  obtain ⟨oc, od, kV, doc, pm, an, cdv, ct, osl, rfl, lk, hcg⟩ := Fn.ex
  refine wpAny_Call_Name_kw (ld_glob I hg hm ?_ hdb)
  refine PySem.W.callWith_K (h₀ := X.base) I.ok.mod.kin kp ?_ he hpl
  rw [all3]
  show wpAny _ _ (spliced [(false, eval e1 X.env), (false, eval e2 X.env), (false, eval (.Lambda params body scope lpos) X.env)]) _ _ s
  refine Calls.spliced_cons (thn (h1.run pins s σ H _ I h) fun u1 s1 ⟨v1, H1, I1, r1, q1⟩ => ?_)
  refine Calls.spliced_cons (thn (h2.run pins s1 σ H1 _ I1 q1) fun u2 s2 ⟨v2, H2, I2, r2, hT, q2⟩ => ?_)
  have has : ∀ y ∈ scope.names, y.2 = .free → ∃ c, X.env.cells.lookup y.1 = some c := fun y hy e => by
    rcases free y hy e with z | z
    · exact I2.ok.has _ (.inl z)
    · exact I2.ok.has _ (.inr z)
  refine Calls.spliced_cons (lam_make2 I2 TB hcode hmT hu hT hdef has fun f c' pm' ctv H3 s3 I3 eN T3 hf hfn hfr hco => ?_)
  refine Calls.spliced_nil ⟨I3.kIn, ?_⟩
  have rc : codeAny (model X.prog X.w) X.A (.call (.ref g) ⟨[u1, u2, .ref f], []⟩) (CR C8.CX0 X.stack X.prog X.w H3 s3 Q C8.E0) s3 := by
    refine run_ofS (N := Ng) (ps := [a1, a2, a3]) (us := [u1, u2, .ref f]) (vs := [v1, v2, .ref f]) lk hcg Sg hr I3.env0 (bd s3 [u1, u2, .ref f] I3.kIn rfl) (.cons r1 (.cons r2 (.cons rfl .nil))) rfl fun hr' => ?_
    obtain ⟨tb, hb, hq⟩ := hG g cdv X.A X.stack s3 H3 f v1 v2 Q (fun v H4 Q4 => H4 c' = some (CodeO c' (X.env.qual ++ "<lambda>")) ∧ te (startF Nl [v] (js.map (slotAt σ))) H4 Q4) hr'
      (fun e ta p1 p2 ha hs hz => act_lam (k := k) I3 S one (Caps.made I3.ok free hfrs hjs) hf hfn hfr bind (hr'.mono (by omega)) (fun A outer t HZ hr2 => hbody c' f A outer t HZ hr2) hN hv ha hd hcd hs hz) (q2 c' H3 eN T3 hco)
    exact ⟨tb, hb.nox, hq⟩
  refine wpAny_call (codeAny_mono rc fun res s4 hres => ?_)
  cases res with
  | error e => exact (show False from hres).elim
  | ok fl =>
    cases fl with
    | ret u => exact I3.after hres
    | next => exact False.elim hres
    | brk => exact False.elim hres
    | cont => exact False.elim hres
end Tw

/-! Keys that are pairs, numbered as they come; the classes one part finer. -/
namespace Tw
open PySem PySem.Spec PyProof.Rows L2
def keyT (p : Int × Int) : List Key := [Sum.inl p.1, Sum.inl p.2]
theorem keyT_inj {p q : Int × Int} (h : keyT p = keyT q) : p = q := by
  unfold keyT at h
  injection h with h1 h2
  injection h2 with h2 _
  exact Prod.ext (Sum.inl.inj h1) (Sum.inl.inj h2)
def enumT : Nat → List (Int × Int) → List (List Key × V)
  | _, [] => []
  | i, p :: ps => (keyT p, V.int (i : Int)) :: enumT (i + 1) ps
theorem enumT_len : ∀ (i : Nat) (ps : List (Int × Int)), (enumT i ps).length = ps.length
  | _, [] => rfl
  | i, p :: ps => congrArg (· + 1) (enumT_len (i + 1) ps)
theorem enumT_snoc : ∀ (i : Nat) (ps : List (Int × Int)) (q : Int × Int), enumT i (ps ++ [q]) = enumT i ps ++ [(keyT q, V.int ((i + ps.length : Nat) : Int))]
  | i, [], q => rfl
  | i, p :: ps, q => by
    have e := enumT_snoc (i + 1) ps q
    have l : i + 1 + ps.length = i + (p :: ps).length := by rw [List.length_cons]; omega
    rw [l] at e
    show (keyT p, V.int (i : Int)) :: enumT (i + 1) (ps ++ [q]) = _
    rw [e]
    rfl
theorem enumT_none : ∀ (i : Nat) {ps : List (Int × Int)} {q : Int × Int}, q ∉ ps → valV (enumT i ps) (keyT q) = none
  | _, [], _, _ => rfl
  | i, p :: ps, q, h => by
    have a : ¬ keyT p = keyT q := fun e => h (by rw [keyT_inj e]; exact List.mem_cons_self)
    have b := enumT_none (i + 1) (q := q) (fun z => h (List.mem_cons_of_mem p z))
    show valV ((keyT p, V.int (i : Int)) :: enumT (i + 1) ps) (keyT q) = none
    rw [valV_neg a]
    exact b
theorem enumT_some : ∀ (i : Nat) {ps : List (Int × Int)} {q : Int × Int}, q ∈ ps → valV (enumT i ps) (keyT q) = some (V.int ((i + ps.idxOf q : Nat) : Int))
  | i, p :: ps, q, h => by
    show valV ((keyT p, V.int (i : Int)) :: enumT (i + 1) ps) (keyT q) = _
    by_cases e : p = q
    · rw [e, valV_pos rfl, List.idxOf_cons_self]
      rfl
    · have ix : (p :: ps).idxOf q = ps.idxOf q + 1 := by
        rw [List.idxOf_cons]
        simp [beq_eq_false_iff_ne.mpr e]
      have b := enumT_some (i + 1) ((List.mem_cons.mp h).resolve_left (Ne.symm e))
      rw [valV_neg (fun z => e (keyT_inj z)), b, ix]
      congr 2
      omega
/-- what tells a number's class by one part more -/
def kyC (f : Int → Int) (pt : Int) (cl : List Int) (x : Int) : Int × Int := (x / pt, gI cl (f x))
/-- the keys of the first i numbers -/
structure KyS (f : Int → Int) (pt : Int) (cl : List Int) (i : Nat) (ks : List (Int × Int)) : Prop where
  nd : ks.Nodup
  into : ∀ q ∈ ks, ∃ x : Nat, x < i ∧ q = kyC f pt cl x
  onto : ∀ x : Nat, x < i → kyC f pt cl x ∈ ks
def fiL (f : Int → Int) (pt : Int) (cl : List Int) (ks : List (Int × Int)) (i : Nat) : List Int := (List.range i).map fun (x : Nat) => ((ks.idxOf (kyC f pt cl x) : Nat) : Int)
theorem kyS_old {f : Int → Int} {pt : Int} {cl : List Int} {i : Nat} {ks : List (Int × Int)} (h : KyS f pt cl i ks) (hm : kyC f pt cl i ∈ ks) : KyS f pt cl (i + 1) ks ∧ fiL f pt cl ks (i + 1) = fiL f pt cl ks i ++ [((ks.idxOf (kyC f pt cl i) : Nat) : Int)] := by
  refine ⟨⟨h.nd, fun q hq => ?_, fun x hx => ?_⟩, ?_⟩
  · obtain ⟨x, l, e⟩ := h.into q hq
    exact ⟨x, by omega, e⟩
  · by_cases c : x = i
    · rw [c]; exact hm
    · exact h.onto x (by omega)
  · unfold fiL
    rw [List.range_succ, List.map_append]
    rfl
theorem kyS_new {f : Int → Int} {pt : Int} {cl : List Int} {i : Nat} {ks : List (Int × Int)} (h : KyS f pt cl i ks) (hm : kyC f pt cl i ∉ ks) : KyS f pt cl (i + 1) (ks ++ [kyC f pt cl i]) ∧ fiL f pt cl (ks ++ [kyC f pt cl i]) (i + 1) = fiL f pt cl ks i ++ [((ks.length : Nat) : Int)] := by
  refine ⟨⟨?_, fun q hq => ?_, fun x hx => ?_⟩, ?_⟩
  · refine List.nodup_append.mpr ⟨h.nd, by simp, fun a ha b hb e => ?_⟩
    rw [List.mem_singleton.mp hb] at e
    exact hm (by rw [← e]; exact ha)
  · rcases List.mem_append.mp hq with hq | hq
    · obtain ⟨x, l, e⟩ := h.into q hq
      exact ⟨x, by omega, e⟩
    · exact ⟨i, by omega, List.mem_singleton.mp hq⟩
  · by_cases c : x = i
    · rw [c]; exact List.mem_append_right _ (List.mem_singleton.mpr rfl)
    · exact List.mem_append_left _ (h.onto x (by omega))
  · unfold fiL
    rw [List.range_succ, List.map_append]
    have e1 : (List.range i).map (fun (x : Nat) => (((ks ++ [kyC f pt cl i]).idxOf (kyC f pt cl x) : Nat) : Int)) = (List.range i).map fun (x : Nat) => ((ks.idxOf (kyC f pt cl x) : Nat) : Int) := List.map_congr_left fun x hx => by
      rw [List.idxOf_append, if_pos (h.onto x (List.mem_range.mp hx))]
    rw [e1]
    show _ ++ [(((ks ++ [kyC f pt cl i]).idxOf (kyC f pt cl i) : Nat) : Int)] = _
    rw [List.idxOf_append, if_neg hm, List.idxOf_cons_self]
    simp
theorem idx_inj {ks : List (Int × Int)} {a b : Int × Int} (ha : a ∈ ks) (hb : b ∈ ks) (e : ks.idxOf a = ks.idxOf b) : a = b := by
  have g : ∀ {c}, c ∈ ks → ks[ks.idxOf c]? = some c := fun {c} hc => by
    rw [List.getElem?_eq_getElem (List.idxOf_lt_length_of_mem hc), List.getElem_idxOf]
  have h1 := g ha
  rw [e, g hb] at h1
  exact (Option.some.inj h1).symm
theorem cl_step {f : Int → Int} {pt m : Int} {k : Nat} {cl : List Int} {ks : List (Int × Int)} (fr : ∀ x, 0 ≤ f x ∧ f x < m) (C : Cl f pt m k cl) (h : KyS f pt cl m.toNat ks) : Cl f pt m (k + 1) (fiL f pt cl ks m.toNat) := by
  have len : (fiL f pt cl ks m.toNat).length = m.toNat := by unfold fiL; rw [List.length_map, List.length_range]
  have at_ : ∀ x, 0 ≤ x → x < m → gI (fiL f pt cl ks m.toNat) x = ((ks.idxOf (kyC f pt cl x) : Nat) : Int) := fun x x0 x1 => by
    unfold gI fiL
    rw [List.getD_eq_getElem?_getD, List.getElem?_map, List.getElem?_range (show x.toNat < m.toNat by omega)]
    show ((ks.idxOf (kyC f pt cl ((x.toNat : Nat) : Int)) : Nat) : Int) = _
    rw [show ((x.toNat : Nat) : Int) = x by omega]
  have inK : ∀ x, 0 ≤ x → x < m → kyC f pt cl x ∈ ks := fun x x0 x1 => by
    have := h.onto x.toNat (by omega)
    rw [show ((x.toNat : Nat) : Int) = x by omega] at this
    exact this
  refine ⟨len, fun x y x0 x1 y0 y1 => ?_, fun v hv => ?_, fun v hv w w0 w1 => ?_⟩
  · rw [at_ x x0 x1, at_ y y0 y1, eqK_succ, ← C.eq _ _ (fr x).1 (fr x).2 (fr y).1 (fr y).2]
    constructor
    · intro e
      have e2 : ks.idxOf (kyC f pt cl x) = ks.idxOf (kyC f pt cl y) := by omega
      have e3 : kyC f pt cl x = kyC f pt cl y := idx_inj (inK x x0 x1) (inK y y0 y1) e2
      exact ⟨congrArg Prod.fst e3, congrArg Prod.snd e3⟩
    · rintro ⟨e1, e2⟩
      have : kyC f pt cl x = kyC f pt cl y := by
        unfold kyC
        rw [e1, e2]
      rw [this]
  · unfold fiL at hv
    obtain ⟨x, _, rfl⟩ := List.mem_map.mp hv
    omega
  · unfold fiL at hv
    obtain ⟨x, hx, rfl⟩ := List.mem_map.mp hv
    have lx := List.idxOf_lt_length_of_mem (h.onto x (List.mem_range.mp hx))
    have wl : w.toNat < ks.length := by omega
    obtain ⟨y, yl, ey⟩ := h.into _ (List.getElem_mem wl)
    unfold fiL
    refine List.mem_map.mpr ⟨y, List.mem_range.mpr yl, ?_⟩
    rw [← ey, List.Nodup.idxOf_getElem h.nd]
    omega
theorem cl_zero {f : Int → Int} {pt m : Int} : Cl f pt m 0 (List.replicate m.toNat 0) := by
  have at_ : ∀ x, gI (List.replicate m.toNat (0 : Int)) x = 0 := fun x => by
    unfold gI
    rw [List.getD_eq_getElem?_getD, List.getElem?_replicate]
    split <;> rfl
  refine ⟨List.length_replicate, fun x y _ _ _ _ => ?_, fun x hx => ?_, fun x hx v v0 v1 => ?_⟩
  · rw [at_, at_]
    exact ⟨fun _ i hi => absurd hi (Nat.not_lt_zero _), fun _ => rfl⟩
  · rw [(List.mem_replicate.mp hx).2]
    exact Int.le_refl 0
  · have e := List.mem_replicate.mp hx
    have : v = 0 := by omega
    rw [this]
    exact List.mem_replicate.mpr ⟨e.1, rfl⟩
theorem mx_ex : ∀ {cl : List Int}, cl ≠ [] → ∃ M, Mx cl M
  | [x], _ => ⟨x, List.mem_singleton.mpr rfl, fun y hy => by rw [List.mem_singleton.mp hy]; exact Int.le_refl _⟩
  | x :: y :: r, _ => by
    obtain ⟨M, h1, h2⟩ := mx_ex (cl := y :: r) (by simp)
    by_cases c : x ≤ M
    · exact ⟨M, List.mem_cons_of_mem x h1, fun z hz => by
        rcases List.mem_cons.mp hz with rfl | hz
        · exact c
        · exact h2 z hz⟩
    · exact ⟨x, List.mem_cons_self, fun z hz => by
        rcases List.mem_cons.mp hz with rfl | hz
        · exact Int.le_refl _
        · have := h2 z hz
          omega⟩
theorem allsN_succ (i : Nat) : alls ((i + 1 : Nat) : Int) = alls (i : Int) ++ [(i : Int)] := by
  unfold alls
  rw [show (((i + 1 : Nat) : Int)).toNat = i + 1 by omega, show ((i : Int)).toNat = i by omega, List.range_succ, List.map_append]
  rfl
/-! ### what is promised -/
def pMore (K : PySem.W.Frag) : V → V → V → Hp → VK → XK → Prop := fun a b c H Q _ => ∃ (lc ll : Addr) (f : Int → Int) (m pt : Int) (k : Nat) (cl : List Int), a = .ref lc ∧ b = .ref ll ∧ c = .int pt ∧ SqL K H lc (cl.map V.int) ∧ SqL K H ll (((alls m).map f).map V.int) ∧ (∀ x, 0 ≤ f x ∧ f x < m) ∧ 0 < m ∧ m ≤ 100000 ∧ 1 ≤ pt ∧ pt ≤ 1000000000000 ∧ Cl f pt m k cl ∧
  ∀ H' q fi, Same H H' → H q = none → H' q = some (.lst (fi.map V.int)) → Cl f pt m (k + 1) fi → Q (.ref q) H'
def pHow (K : PySem.W.Frag) : V → Hp → VK → XK → Prop := fun a H Q _ => ∃ (lc : Addr) (cl : List Int), a = .ref lc ∧ SqL K H lc (cl.map V.int) ∧ 0 < cl.length ∧ ∀ M, Mx cl M → Q (.int (M + 1)) H
/-- the least number of parts by which it is so, or none -/
def Lst (St : Nat → Prop) (v : V) : Prop := (v = .non ∧ ∀ k, ¬ St k) ∨ ∃ k : Nat, v = .int (k : Int) ∧ St k ∧ ∀ j, j < k → ¬ St j
theorem Lst.uniq {St : Nat → Prop} {u v : V} (a : Lst St u) (b : Lst St v) : u = v := by
  rcases a with ⟨rfl, a⟩ | ⟨k, rfl, a, la⟩
  · rcases b with ⟨rfl, _⟩ | ⟨j, rfl, b, _⟩
    · rfl
    · exact absurd b (a j)
  · rcases b with ⟨rfl, b⟩ | ⟨j, rfl, b, lb⟩
    · exact absurd a (b k)
    · rcases (show k < j ∨ k = j ∨ j < k by omega) with h | h | h
      · exact absurd a (lb k h)
      · rw [h]
      · exact absurd b (la j h)
/-- it hangs on which are told apart alone -/
def OnEq (f : Int → Int) (pt m : Int) (St : Nat → Prop) : Prop := ∀ j k, (∀ x y, 0 ≤ x → x < m → 0 ≤ y → y < m → (EqK f pt j x y ↔ EqK f pt k x y)) → (St j ↔ St k)
def TTLeast (K : PySem.W.Frag) : V → V → (V → Hp → VK → Prop) → Hp → VK → Prop := fun a b tl H Q => ∃ (r : Addr) (t p m pt : Int) (St : Nat → Prop), a = .ref r ∧ b = .int pt ∧ SqT K H r [.int t, .int p, .int m] ∧ Rule t p m ∧ m ≤ 100000 ∧ 1 ≤ pt ∧ pt ≤ 1000000000000 ∧ OnEq (stp t p m) pt m St ∧
  (∀ l cl k H' Q', Same H H' → H' l = some (.lst (cl.map V.int)) → Cl (stp t p m) pt m k cl → (∀ b : Bool, (b = true ↔ St k) → Q' (.bl b) H') → tl (.ref l) H' Q') ∧ (∀ H' v, Same H H' → Lst St v → Q v H')
end Tw

/-! all(test for x in ..): the test is read in the generator's own frame, by the rules of the layer. -/
namespace Tw
open PySem PySem.Spec PyProof.Rows L2 GenW
/-- the generator's frame as a context -/
abbrev gxX (X : Cx) (s : Shared) (H : Hp) (cenv : Env) (fp : List Addr) (A : Around) : Cx :=
  { X with A := A, s_0 := s, H_0 := H, env := cenv, outer := X.stack, stack := cenv :: X.stack, ex := fp, fn := fun _ => false, pn := [], xe := fun _ _ => False }
def noneS (N : List Str) : L2.St := List.replicate N.length none
/-- the generator sleeps: only the table of generators changes -/
structure Sl (s s' : Shared) : Prop where
  hp : s'.heap = s.heap
  os : s'.os = s.os
  bare : AllBare s'.gens
  sz : s.gens.size ≤ s'.gens.size
theorem bare_set {s : Shared} {g : Nat} {x : GenState} (h : AllBare s.gens) (hx : x.bare = true) : AllBare (s.setGen g x).gens := by
  intro y hy
  have e : (s.setGen g x).gens = s.gens.setIfInBounds g x := rfl
  rw [e] at hy
  obtain ⟨i, hi, rfl⟩ := Array.mem_iff_getElem.mp hy
  rw [Array.getElem_setIfInBounds]
  · split
    · exact hx
    · exact h _ (Array.getElem_mem _)
  · simpa using hi
theorem set_get {s : Shared} {g : Nat} {x : GenState} (h : g < s.gens.size) : (s.setGen g x).gens[g]? = some x := setGen_self (Array.getElem?_eq_getElem h)
theorem _root_.L2.Inv.slept {X : Cx} {pins : List (Addr × Obj)} {σ : L2.St} {H : Hp} {s s' : Shared} (I : L2.Inv X pins σ H s) (z : Sl s s') : L2.Inv X pins σ H s' :=
  I.call' (ch := []) z.os (by rw [z.hp]; exact Un.kept fun _ _ e => e) (by rw [z.hp]; exact I.hok) z.bare fun _ hb => by cases hb
section
variable {G : Cx} {cenv : Env} {fp : List Addr} {A1 : Around} {it ga : Addr} {gi : Nat} {go : Obj} {tn : Nat → Heap → Prop} {J : It} {elt iter : Expr} {x : Str} {px gpos : Pos} {scope : Scope} {ix : Nat} {te : TE} {W : Nat → Hp → Prop} {Qt Qf : Hp → Prop} {N : Nat}
abbrev geE (elt iter : Expr) (x : Str) (px : Pos) (scope : Scope) (gpos : Pos) : Expr := .GeneratorExp elt [⟨.Name x px, iter, [], 0⟩] scope gpos
/-- the loop's code -/
abbrev geC (elt iter : Expr) (x : Str) (px : Pos) (scope : Scope) (gpos : Pos) (it : Addr) (cenv : Env) : Code := .compLoop (geE elt iter x px scope gpos) 0 (.ref it) .none cenv
abbrev geS (elt iter : Expr) (x : Str) (px : Pos) (scope : Scope) (gpos : Pos) (it : Addr) (cenv : Env) : Code := .compStart (geE elt iter x px scope gpos) 0 (.ref it) .none cenv
def gY (G : Cx) (gi : Nat) (pl : List (Addr × Obj)) (Qf : Hp → Prop) : Protocol := fun _ _ v s kap =>
  gi < s.gens.size ∧ ∃ (b : Bool) (σ : L2.St) (H : Hp), v = .bool b ∧ L2.Inv G pl σ H s ∧ (b = false → Qf H) ∧ (b = true → ∀ s', Sl s s' → kap (.send .none) s')
def gR (G : Cx) (pl : List (Addr × Obj)) (Qt : Hp → Prop) : GenEnd := fun _ _ r s => r = .ok .next ∧ ∃ (σ : L2.St) (H : Hp), L2.Inv G pl σ H s ∧ Qt H
/-- what G is -/
structure GeX (G : Cx) (fp : List Addr) (A1 : Around) (cenv : Env) (c : Code) : Prop where
  calm : G.calm = true
  A : G.A = A1.over c []
  env : G.env = cenv
  xe : G.xe = fun _ _ => False
  pn : G.pn = []
  ex : G.ex = fp
theorem none_set {N : List Str} {σ : L2.St} (hl : σ.length = N.length) (i : Nat) (u : V) (h : (noneS N)[i]? = some (some u)) : σ[i]? = some (some u) := by
  unfold noneS at h
  rw [List.getElem?_replicate] at h
  split at h <;> cases h
theorem seg_ge (gx : GeX G fp A1 cenv (geC elt iter x px scope gpos it cenv)) (hN : G.N.Nodup) (hi : G.N[ix]? = some x) (hx : scope.names.lookup x = some .local) (hsc : cenv.scope = scope) (hco : scope.isCoroutine = false)
    (T : Turn G.prog G.w G.K (.Name x px) J fp it tn) (hga : ga ∉ fp) (pe : PE G elt te)
    (hstop : ∀ H, W N H → J.stop N H ∧ Qt H)
    (hgo : ∀ i H, i < N → W i H → J.go i H ∧ ∀ v H', J.yld i H v H' → te ((noneS G.N).set ix (some v)) H' fun y H2 => ∃ b, y = .bl b ∧ (b = true → W (i + 1) H2) ∧ (b = false → Qf H2)) :
    ∀ (n i : Nat) (s₀ s : Shared) (H : Hp), i + n = N → L2.Inv G [(ga, go)] (noneS G.N) H s → tn i s.heap → (∀ b ∈ fp, H b = none) → W i H → gi < s.gens.size →
      Seg (model G.prog G.w) A1 (gR G [(ga, go)] Qt) (gY G gi [(ga, go)] Qf) n s₀ (geC elt iter x px scope gpos it cenv) ((model G.prog G.w).den (geC elt iter x px scope gpos it cenv)) [] s := by
  obtain ⟨calm, gA, gE, gxe, gpn, gex⟩ := gx
  have stat : ∀ {σ' : L2.St} {H' : Hp} {s' : Shared}, L2.Inv G [(ga, go)] σ' H' s' → (∀ b ∈ fp, H' b = none) → ∀ b ∈ fp, FpOk G [(ga, go)] H' b := fun {σ' H' s'} I' hn b hb => by
    have hb' : b ∈ G.ex := by rw [gex]; exact hb
    refine ⟨hn b hb, (I'.ok.exf b hb').1, I'.ok.exfs b hb', .inl hb', fun x c e => (I'.ok.exf b hb').2 x c e, fun p hp z => ?_⟩
    rw [gpn] at hp
    have e : p = (ga, go) := by simpa using hp
    have e2 : p.1 = ga := congrArg Prod.fst e
    exact hga (by rw [← e2, z]; exact hb)
  have pg : PG G (.Name x px) (gName ix) := pg_name hN hi (by rw [gE, hsc]; exact .inl hx) (.inr (by rw [gE, hsc]; exact hx))
  intro n
  induction n with
  | zero =>
    intro i s₀ s H hn I st nf w hgs
    obtain rfl : i = N := by omega
    show Seg _ A1 _ _ _ s₀ _ ((compTurn (geE elt iter x px scope gpos) 0 (.ref it) .none cenv).onRaise (leaving cenv)) [] s
    rw [compTurn_gen, Sem.onRaise_eq_wrap]
    refine seg_bind_wrap (wpAny_standAt ?_)
    obtain ⟨stop, qt⟩ := hstop H w
    have td := T.done G rfl rfl rfl calm i [(ga, go)] s _ H (fun _ _ => False) I (stat I nf) st stop
    rw [gA] at td
    refine seg_bind_wrap (thnF td fun r s1 ⟨hr, I1⟩ => ?_)
    subst hr
    exact seg_end (.ok .next) ⟨rfl, _, H, I1, qt⟩
  | succ n ih =>
    intro i s₀ s H hn I st nf w hgs
    show Seg _ A1 _ _ _ s₀ _ ((compTurn (geE elt iter x px scope gpos) 0 (.ref it) .none cenv).onRaise (leaving cenv)) [] s
    rw [compTurn_gen, Sem.onRaise_eq_wrap]
    refine seg_bind_wrap (wpAny_standAt ?_)
    obtain ⟨goes, step⟩ := hgo i H (by omega) w
    have ti := T.item G rfl rfl rfl calm i [(ga, go)] s _ H (fun _ _ => False) I (stat I nf) st goes
    rw [gA] at ti
    refine seg_bind_wrap (wpAny_gsz hgs (thnF ti fun r s1 ⟨u, hr, h1⟩ z1 => ?_))
    subst hr
    refine seg_bind_wrap (wpAny_gsz z1 (thnF h1 fun _ s2 ⟨v, H2, I2, r2, y2, st2, n2⟩ z2 => ?_))
    have I2' := I2.pinned (stat I2 n2) (T.obj _ _ st2)
    have pr := pg.run _ s2 _ H2 v u (fun σ' H' => σ' = (noneS G.N).set ix (some v) ∧ H' = H2) I2' r2 ⟨rfl, rfl⟩
    rw [gA, gE, gxe] at pr
    refine seg_bind_wrap (wpAny_gsz z2 (thnF pr fun _ s3 ⟨σ3, H3, I3, e3, e4⟩ z3 => ?_))
    subst e3 e4
    simp only [List.forIn_nil]
    refine seg_bind_wrap (wpAny_pure ?_)
    simp only [if_true]
    have hy : ∀ v, yieldOut cenv v = yieldValue v := fun v => by simp only [yieldOut, hsc, hco, Bool.false_eq_true, if_false]
    simp only [hy]
    rw [Sem.bind_eq_wrap', Sem.bind_eq_wrap', Sem.wrap_wrap, Sem.wrap_wrap]
    have er := pe.run _ s3 _ H3 _ I3 (step v H3 y2)
    rw [gA, gE, gxe] at er
    refine seg_wrap (wpAny_gsz z3 (thnF er fun y s5 ⟨yv, H5, I5, r5, b, eb, wt, wf⟩ z5 => ?_))
    subst eb
    obtain rfl : y = .bool b := r5
    have I6 : L2.Inv G [(ga, go)] (noneS G.N) H5 s5 := (I5.unpinned (pins := [(ga, go)])).weak (by unfold noneS; rw [List.length_replicate]; exact I5.len.symm) (fun j u e => none_set I5.len j u e)
    have pin' : ∀ b ∈ fp, ∀ o, s2.heap.get? b = some o → s5.heap.get? b = some o ∧ H5 b = none := fun b hb o e =>
      let z := I5.pin (b, o) (List.mem_append_right _ (List.mem_append_right _ (mem_pinsAt hb e)))
      ⟨z.1, z.2.1⟩
    have st5 : tn (i + 1) s5.heap := T.keep _ _ _ st2 fun b hb o e => (pin' b hb o e).1
    have n5 : ∀ b ∈ fp, H5 b = none := fun b hb => by
      obtain ⟨o, e, _⟩ := T.obj _ _ st2 b hb
      exact (pin' b hb o e).2
    refine seg_at (seg_yield rfl rfl rfl ⟨z5, b, _, H5, rfl, I6, wf, fun hb s' sl => ?_⟩)
    exact seg_again rfl (ih (i + 1) s' s' H5 (by omega) (I6.slept sl) (by rw [sl.hp]; exact st5) n5 (wt hb) (Nat.lt_of_lt_of_le z5 sl.sz))
/-- the generator lies asleep, n turns at the most are left -/
structure Slp (G : Cx) (A1 : Around) (ga : Addr) (gi : Nat) (go : Obj) (Qt Qf : Hp → Prop) (n : Nat) (s : Shared) : Prop where
  gen : s.heap.IsGen ga gi
  lim : s.heap.NoLimit
  bare : AllBare s.gens
  goes : ∃ gs, s.gens[gi]? = some gs ∧ ∀ s', Sl s s' → gs.Goes (model G.prog G.w) A1 (gR G [(ga, go)] Qt) (gY G gi [(ga, go)] Qf) n (.send .none) s'
theorem sl_set {s : Shared} {g : Nat} {x : GenState} (h : AllBare s.gens) (hx : x.bare = true) : Sl s (s.setGen g x) := ⟨rfl, rfl, bare_set h hx, by rw [setGen_size]; exact Nat.le_refl _⟩
theorem loop_all {A : Around} {R : Result → Shared → Prop} (hh : A.handled = none) (hroom : A.depth < recursionLimit) (hgo : ∀ h : Heap, h.get? ga = some go → h.IsGen ga gi)
    (ht : ∀ σ H s, L2.Inv G [(ga, go)] σ H s → Qt H → R (.ok (.ret (.bool true))) s) (hf : ∀ σ H s, L2.Inv G [(ga, go)] σ H s → Qf H → R (.ok (.ret (.bool false))) s) :
    ∀ (n : Nat) (s : Shared), Slp G A.in1.in1 ga gi go Qt Qf n s → codeAny (model G.prog G.w) A (.builtin "all.loop" ⟨[.ref ga], []⟩) R s := by
  intro n
  induction n with
  | zero =>
    intro s S
    refine codeAny_builtin F.entry_all_loop ?_
    rw [Around.under_plainId F.plain_all_loop _]
    show wpAny _ A.in1 (pyNext (.ref ga) >>= _) _ _ s
    obtain ⟨gs, hgs, goes⟩ := S.goes
    refine wpAny_bind (wpAny_pyNext_genexpQ (P := fun _ _ s => ∃ (σ : L2.St) (H : Hp), L2.Inv G [(ga, go)] σ H s ∧ Qt H) hh S.lim hroom S.gen hgs (goes _ (sl_set S.bare rfl)) (fun v s1 gs' hb hv => ?_) fun s1 hp h' hk => ?_)
    · obtain ⟨z1, b, σ, H, rfl, I, qf, kap⟩ := hv
      refine wpAny_bind (wpAny_holding (wpAny_truthy_bool ?_))
      refine wpAny_bind (wpAny_letGo ?_)
      cases b with
      | true => exact (kap rfl s1 ⟨rfl, rfl, I.bare, Nat.le_refl _⟩).elim
      | false =>
        simp only [Bool.false_eq_true, if_false]
        refine wpAny_bind (wpAny_rule (wpAny_pure ?_))
        exact hf σ H _ (I.slept (sl_set I.bare hb)) (qf rfl)
    · obtain ⟨σ, H, I, qt⟩ := hp
      refine wpAny_bind (wpAny_rule (wpAny_pure ?_))
      exact ht σ H _ ((I.slept (sl_set (g := gi) (x := .finished) I.bare rfl)).call' (ch := []) rfl (Un.kept hk) ((I.slept (sl_set (g := gi) (x := .finished) I.bare rfl)).hok.kept hk) (bare_set I.bare rfl) fun _ hb => by cases hb) qt
  | succ n ih =>
    intro s S
    refine codeAny_builtin F.entry_all_loop ?_
    rw [Around.under_plainId F.plain_all_loop _]
    show wpAny _ A.in1 (pyNext (.ref ga) >>= _) _ _ s
    obtain ⟨gs, hgs, goes⟩ := S.goes
    refine wpAny_bind (wpAny_pyNext_genexpQ (P := fun _ _ s => ∃ (σ : L2.St) (H : Hp), L2.Inv G [(ga, go)] σ H s ∧ Qt H) hh S.lim hroom S.gen hgs (goes _ (sl_set S.bare rfl)) (fun v s1 gs' hb hv => ?_) fun s1 hp h' hk => ?_)
    · obtain ⟨z1, b, σ, H, rfl, I, qf, kap⟩ := hv
      refine wpAny_bind (wpAny_holding (wpAny_truthy_bool ?_))
      refine wpAny_bind (wpAny_letGo ?_)
      cases b with
      | true =>
        simp only [if_true]
        refine wpAny_pure ⟨plainId_quiet F.plain_all_loop _, ih _ ⟨?_, ?_, bare_set I.bare hb, gs', set_get z1, fun s' sl => ?_⟩⟩
        · exact hgo _ (I.pin (ga, go) (List.mem_append_right _ (List.mem_singleton.mpr rfl))).1
        · exact I.nolimit
        · exact kap rfl s' ⟨sl.hp, sl.os, sl.bare, Nat.le_trans (by rw [setGen_size]; exact Nat.le_refl _) sl.sz⟩
      | false =>
        simp only [Bool.false_eq_true, if_false]
        refine wpAny_bind (wpAny_rule (wpAny_pure ?_))
        exact hf σ H _ (I.slept (sl_set I.bare hb)) (qf rfl)
    · obtain ⟨σ, H, I, qt⟩ := hp
      refine wpAny_bind (wpAny_rule (wpAny_pure ?_))
      exact ht σ H _ ((I.slept (sl_set (g := gi) (x := .finished) I.bare rfl)).call' (ch := []) rfl (Un.kept hk) ((I.slept (sl_set (g := gi) (x := .finished) I.bare rfl)).hok.kept hk) (bare_set I.bare rfl) fun _ hb => by cases hb) qt
end
end Tw

/-! the rule: all(test for x in ..). -/
namespace Tw
open PySem PySem.Spec PyProof.Rows L2 GenW
section
variable {G : Cx} {cenv : Env} {fp : List Addr} {A1 : Around} {it ga : Addr} {gi : Nat} {go : Obj} {tn : Nat → Heap → Prop} {J : It} {elt iter : Expr} {x : Str} {px gpos : Pos} {scope : Scope} {Qt Qf : Hp → Prop} {n : Nat}
theorem seg_start {R : GenEnd} {Y : Protocol} {s₀ s : Shared} {M : Program} {w : World} {K : PySem.W.Frag} {tg : Expr} (T : Turn M w K tg J fp it tn) (st : tn 0 s.heap)
    (loop : Seg (model M w) A1 R Y n s₀ (geC elt iter x px scope gpos it cenv) ((model M w).den (geC elt iter x px scope gpos it cenv)) [] s) :
    Seg (model M w) A1 R Y n s₀ (geS elt iter x px scope gpos it cenv) ((model M w).den (geS elt iter x px scope gpos it cenv)) [] s := by
  show Seg _ A1 _ _ _ s₀ _ ((compStart (geE elt iter x px scope gpos) 0 (.ref it) .none cenv).onRaise (leaving cenv)) [] s
  unfold compStart
  rw [Sem.onRaise_eq_wrap]
  show Seg _ A1 _ _ _ s₀ _ ((ask >>= _).wrap _ _ _ _) [] s
  refine seg_bind_wrap (wpAny_askSetting ?_)
  split
  · exact seg_again rfl loop
  · refine seg_bind_wrap (wpAny_rule ?_)
    show Seg _ A1 _ _ _ s₀ _ ((standAt iter.pos >>= _).wrap _ _ _ _) [] s
    exact seg_bind_wrap (wpAny_standAt (seg_bind_wrap (T.self _ 0 s _ _ st (seg_again rfl loop))))
end
/-- the generator's scope: its one name, nothing captured -/
structure GeS (scope : Scope) (x : Str) : Prop where
  kind : scope.kind = .function
  co : scope.isCoroutine = false
  cell : ∀ y ∈ scope.names, y.2 ≠ .cell
  free : ∀ y ∈ scope.names, y.2 ≠ .free
  dot : scope.names.lookup (".0" : Str) = some NameKind.local
  loc : scope.names.lookup x = some .local
theorem clo_nil {cells : List (Str × Addr)} : ∀ {names : List (Str × NameKind)}, (∀ y ∈ names, y.2 ≠ .free) → ∀ acc, cloFrom cells names acc = acc
  | [], _, acc => rfl
  | (n, k) :: r, h, acc => by
    unfold cloFrom
    rw [if_neg (by have := h (n, k) List.mem_cons_self; simpa using this)]
    exact clo_nil (fun y hy => h y (List.mem_cons_of_mem _ hy)) acc
/-- its context at the start -/
theorem ge_start {X : Cx} {pins : List (Addr × Obj)} {σ : L2.St} {H : Hp} {s : Shared} {scope : Scope} {x : Str} {fp : List Addr} {A : Around} {code : Value} {m : Str → Option Value} {h' : Heap} {g' : Array GenState} {t' : Nat} {go : Obj}
    (I : L2.Inv X pins σ H s) (S : GeS scope x) (hA : A.handled = none) (hfr : A.frames = some (genEnv scope [] s.heap.objs.size code builtinsNs X.env :: X.stack)) (hfp : ∀ b ∈ fp, FpOk X pins H b ∧ b < s.heap.objs.size)
    (hn : h'.Ns s.heap.objs.size m) (hk : ∀ b o, s.heap.get? b = some o → h'.get? b = some o) (hsz : h'.objs.size = s.heap.objs.size + 1) (hfree : go.isFreed = false) (hgo : ∀ v, go.data ≠ .cell v) (hg : AllBare g') :
    L2.Inv (gxX X s H (genEnv scope [] s.heap.objs.size code builtinsNs X.env) fp A) [(h'.objs.size, go)] (noneS X.N) H { s with heap := h'.push go, gens := g', toks := t' } := by
  have kp : ∀ b o, s.heap.get? b = some o → (h'.push go).get? b = some o := fun b o e => Heap.get?_push_of_some _ (hk b o e)
  have ge : s.heap.objs.size ≤ h'.objs.size := by rw [hsz]; exact Nat.le_succ _
  have okG : (gxX X s H (genEnv scope [] s.heap.objs.size code builtinsNs X.env) fp A).Ok := by
    refine ⟨I.ok.mod, S.kind, I.ok.glob, rfl, Nat.le_refl _, fun y z c e1 e2 => ?_, fun y hy => ?_, fun y c z e => ?_, fun _ => hA, hfr, .inr ⟨rfl, rfl⟩, fun b hb => ⟨Nat.ne_of_lt (hfp b hb).2, fun y c e z => ?_⟩, I.bs, Nat.le_trans I.ok.bsz I.sz, fun b o e hb => ?_, fun b hb z => ?_, I.stack, I.stkFree⟩
    · cases e1
    · rcases hy with hy | hy
      · exact absurd rfl (S.cell _ (PySem.mem_of_lookup hy))
      · exact absurd rfl (S.free _ (PySem.mem_of_lookup hy))
    · cases e
    · cases e
    · rcases (hfp b hb).1.2.2.2.1 with z | z
      · exact I.ok.noex b o e z
      · exact absurd (Nat.lt_of_lt_of_le (Heap.lt_size e) (Nat.le_trans I.ok.bsz z)) (Nat.lt_irrefl _)
    · rcases List.mem_cons.mp (I.stkSub b z) with z | z
      · exact (hfp b hb).1.2.1 z
      · exact (hfp b hb).1.2.2.1 z
  refine ⟨okG, rfl, hg, Un.kept kp, ⟨m, hn.push _, fun i y av e1 e2 e3 => ?_⟩, fun y c e => ?_, I.hok.fresh (Nat.le_refl _), fun y c e => ?_, fun p hp => ?_, I.hok.kept kp, by unfold noneS; rw [List.length_replicate]⟩
  · unfold noneS at e2
    rw [List.getElem?_replicate] at e2
    split at e2 <;> cases e2
  · cases e
  · cases e
  · have e : p = (h'.objs.size, go) := by simpa using hp
    subst e
    refine ⟨Heap.get?_push_size _ hfree, I.hok.fresh ge, ?_, ?_, hgo⟩
    · show h'.objs.size ≠ s.heap.objs.size
      rw [hsz]
      exact Nat.succ_ne_self _
    · intro z
      rcases List.mem_cons.mp (I.stkSub _ z) with z | z
      · have := I.lt
        rw [← z] at this
        exact absurd (Nat.lt_of_lt_of_le this ge) (Nat.lt_irrefl _)
      · exact I.nofs ge z
/-- all(test for x in ..): W what stands ahead of turn i, of N -/
def tAllG (P : Addr) (NS : List Str) (ix : Nat) (wi : TI) (te : TE) : TE := fun σ H Q => wi σ H fun J H1 => GxR.TabG H1 P ∧ ∃ (N : Nat) (W : Nat → Hp → Prop), (∀ H2, GxR.Tabbed P H1 H2 → W 0 H2) ∧ (∀ H, W N H → J.stop N H ∧ Q (.bl true) H) ∧
  ∀ i H, i < N → W i H → J.go i H ∧ ∀ v H', J.yld i H v H' → te ((noneS NS).set ix (some v)) H' fun y H2 => ∃ b, y = .bl b ∧ (b = true → W (i + 1) H2) ∧ (b = false → Q (.bl false) H2)
theorem pe_allG {X : Cx} {c P : Addr} {elt iter : Expr} {x : Str} {px p pos gpos : Pos} {scope : Scope} {wi : TI} {te : TE} {k ix : Nat} (hc : X.calm = true) (hN : X.N.Nodup) (hi : X.N[ix]? = some x) (hr : Room (k + 1) X.A) (hg : Gl X "all") (hm : X.mg "all" = none)
    (hb : bootBuiltins "all" = some (.builtin "all")) (TB : GxR.TabB X.base X.mg c P) (hcode : X.env.code = .ref c) (S : GeS scope x) (hit : PI X (.Name x px) iter wi)
    (hel : ∀ (s : Shared) (H : Hp) (C : Addr) (code : Value) (fp : List Addr) (A : Around), Room k A → PE (gxX X s H (genEnv scope [] C code builtinsNs X.env) fp A) elt te)
    (hs : ∀ v, genFold iter X.env v = pure v)
    (he : starEach [geE elt iter x px scope gpos] X.env = (false, eval (geE elt iter x px scope gpos) X.env) :: starEach [] X.env := by rfl) :
    PE X (.Call (.Name "all" p) [geE elt iter x px scope gpos] [] pos) (tAllG P X.N ix wi te) := by
  refine ⟨fun pins s σ H Q I h => ?_⟩
  refine wpAny_Call_Name_kw (ld_blt I hg hm hb ?_)
  refine PyProof.Rows.callWith_builtin1 ?_ he (by rfl)
  rw [he]
  show wpAny _ _ (spliced ((false, eval (geE elt iter x px scope gpos) X.env) :: backTo pos (starEach [] X.env))) _ _ s
  refine Calls.spliced_cons ?_
  have hcl : closureFor scope X.env = pure [] := by
    rw [closure_ok (env := X.env) (fun y hy e => absurd e (S.free y hy)), clo_nil S.free]
  refine wpAny_GeneratorExp_make S.co hcl S.cell S.dot S.kind (by have := hr.dp; omega) ?_ hs
  refine thn (hit.run pins s σ H _ I h) fun xv s1 hx => thn hx fun itv s2 h2 => ?_
  obtain ⟨it, fp, tn, J, H2, rfl, I2, T, st2, f2, ⟨ps, hP, ht⟩, N, W, w0, hstop, hgo⟩ := h2
  refine ⟨I2.nolimit, ?_⟩
  have hPs : s2.heap.get? P = some { cls := .none, data := .fields ps } := I2.hok P _ hP
  have cd : PySem.W.CodeHd s2.heap c P := TB.code.keeps fun b u e => I2.bk b u e
  have cont : ∀ (code : Value) (h3 : Heap) (tk : Nat) (ps' : Array Value), Heap.ExtBut P s2.heap h3 → s2.heap.objs.size ≤ h3.objs.size → h3.get? P = some { cls := .none, data := .fields ps' } → (∃ more, ps' = ps ++ more) → TriplesOk ps'.toList →
      wpAny (model X.prog X.w) X.A (builtinsFor X.env.globals X.env.builtins) (fun bi s₄ =>
        ∀ h', h'.Ns s₄.heap.objs.size (fun y => if y = ".0" then some (.ref it) else none) → Heap.SameBut s₄.heap.objs.size (s₄.heap.push { cls := .type "frame", data := .dict #[] }) h' →
          wpAny (model X.prog X.w) X.A (spliced (backTo pos (starEach [] X.env))) (fun vs s' => wpAny (model X.prog X.w) X.A (call (.builtin "all") (Value.ref h'.objs.size :: vs)) (EP X pins σ Q) X.xe s') X.xe
          { s₄ with
            gens := s₄.gens.push (.fresh (.compStart (geE elt iter x px scope gpos) 0 (.ref it) .none (genEnv scope [] s₄.heap.objs.size code bi X.env))),
            toks := s₄.toks + 1 + 1 + 1,
            heap := h'.push { cls := .type "generator", data := .fields #[.int s₄.gens.size 0, .str "<genexpr>" (s₄.toks + 1), .str (X.env.qual ++ "<genexpr>") (s₄.toks + 1 + 1)] } }) X.xe { s2 with heap := h3, toks := tk } := by
    intro code h3 tk ps' hx hsz hP3 ⟨more, em⟩ ht3
    obtain ⟨bm, ob, e1, e2, e3, e4, e5, e6, e7, e8⟩ := TB.bm
    have keep3 : ∀ b u, b ≠ P → s2.heap.get? b = some u → h3.get? b = some u := fun b u hb e => hx b u hb e
    refine wpAny_builtinsFor (m := X.mg) (by rw [I2.ok.glob]; exact (I2.mod.glob.keeps I2.bk).extBut hx TB.gP) e1 e2 (keep3 _ _ e4 (I2.bk _ _ e5)) e6 e7 e8 ?_
    intro h' hn' hs'
    subst em
    have I4 : L2.Inv X pins σ (upd H2 P (.tbl (ps ++ more))) { s2 with heap := h3, gens := s2.gens, drawn := s2.drawn, toks := tk } := GxR.inv_tab I2 hP keep3 hP3 I2.bare
    have fl : ∀ b ∈ fp, b < s2.heap.objs.size := fun b hb => by
      obtain ⟨o, e, _⟩ := T.obj _ _ st2 b hb
      exact Heap.lt_size e
    have fP : ∀ b ∈ fp, b ≠ P := fun b hb z => by
      have := (f2 b hb).1
      rw [z, hP] at this
      cases this
    have f4 : ∀ b ∈ fp, FpOk X pins (upd H2 P (.tbl (ps ++ more))) b ∧ b < h3.objs.size := fun b hb => ⟨⟨by rw [upd_ne (fP b hb)]; exact (f2 b hb).1, (f2 b hb).2⟩, Nat.lt_of_lt_of_le (fl b hb) hsz⟩
    have hs1 : h'.objs.size = h3.objs.size + 1 := by
      have := hs'.1
      rw [this]
      exact Heap.size_push ..
    have kh : ∀ b o, h3.get? b = some o → h'.get? b = some o := fun b o e => hs'.extBut b o (Nat.ne_of_lt (Heap.lt_size e)) (Heap.get?_push_of_some _ e)
    have IG := ge_start (A := X.A.in1.in1.over (geC elt iter x px scope gpos it (genEnv scope [] h3.objs.size code builtinsNs X.env)) []) (code := code) (x := x) (scope := scope) (t' := tk + 1 + 1 + 1) (g' := s2.gens.push (.fresh (.compStart (geE elt iter x px scope gpos) 0 (.ref it) .none (genEnv scope [] h3.objs.size code builtinsNs X.env))))
      (go := { cls := .type "generator", data := .fields #[.int s2.gens.size 0, .str "<genexpr>" (tk + 1), .str (X.env.qual ++ "<genexpr>") (tk + 1 + 1)] }) I4 S hr.hd (by
        show pushEnvs [genEnv scope [] h3.objs.size code builtinsNs X.env] (pushEnvs [] X.A.frames) = _
        rw [I2.ok.frames]
        rfl) f4 hn' kh hs1 rfl (fun v z => by cases z) (I2.bare.push rfl)
    refine Calls.spliced_nil ?_
    have back : ∀ (σ' : L2.St) (H' : Hp) (s' : Shared), L2.Inv (gxX X { s2 with heap := h3, gens := s2.gens, drawn := s2.drawn, toks := tk } (upd H2 P (.tbl (ps ++ more))) (genEnv scope [] h3.objs.size code builtinsNs X.env) fp (X.A.in1.in1.over (geC elt iter x px scope gpos it (genEnv scope [] h3.objs.size code builtinsNs X.env)) []))
        [(h'.objs.size, { cls := .type "generator", data := .fields #[.int s2.gens.size 0, .str "<genexpr>" (tk + 1), .str (X.env.qual ++ "<genexpr>") (tk + 1 + 1)] })] σ' H' s' → L2.Inv X pins σ H' s' := fun σ' H' s' I' =>
      I4.call' (ch := fp) I'.os I'.base I'.hok I'.bare fun b hb => ⟨(f4 b hb).1.2.2.2.1, (f4 b hb).1.2.1, (f4 b hb).1.2.2.2.2.1, (f4 b hb).1.2.2.2.2.2⟩
    have room : Room k (X.A.in1.in1.over (geC elt iter x px scope gpos it (genEnv scope [] h3.objs.size code builtinsNs X.env)) []) := by
      have e1 : (X.A.in1.in1.over (geC elt iter x px scope gpos it (genEnv scope [] h3.objs.size code builtinsNs X.env)) []).depth = X.A.depth + 1 := rfl
      have e2 : (X.A.in1.in1.over (geC elt iter x px scope gpos it (genEnv scope [] h3.objs.size code builtinsNs X.env)) []).units ≤ X.A.units + 5 := Nat.le_of_eq rfl
      have r1 := hr.dp
      have r2 := hr.un
      exact ⟨hr.hd, by rw [e1]; omega, by omega⟩
    have st5 : tn 0 (h'.push { cls := .type "generator", data := .fields #[.int s2.gens.size 0, .str "<genexpr>" (tk + 1), .str (X.env.qual ++ "<genexpr>") (tk + 1 + 1)] }) := T.keep _ _ _ st2 fun b hb o e => Heap.get?_push_of_some _ (kh b o (keep3 b o (fP b hb) e))
    have hgen : ∀ h : Heap, h.get? h'.objs.size = some { cls := .type "generator", data := .fields #[.int s2.gens.size 0, .str "<genexpr>" (tk + 1), .str (X.env.qual ++ "<genexpr>") (tk + 1 + 1)] } → h.IsGen h'.objs.size s2.gens.size := fun h e => ⟨_, _, _, e, rfl, rfl, rfl⟩
    have hga : h'.objs.size ∉ fp := fun z => by
      have := (f4 _ z).2
      rw [hs1] at this
      exact absurd (Nat.lt_trans (Nat.lt_succ_self _) this) (Nat.lt_irrefl _)
    refine call_function_tree F.kind_all F.plain_all F.entry_all (F.args_all1 _) ?_
    unfold Builtin.«all»
    refine wpAny_bind (m := oneArg "all" _) (wpAny_pure ?_)
    refine wpAny_bind (wpAny_pyIter_gen (g := s2.gens.size) (hgen _ (Heap.get?_push_size _ rfl)) ?_)
    refine wpAny_pure ⟨plainId_quiet F.plain_all_loop _, ?_⟩
    refine loop_all (G := gxX X { s2 with heap := h3, gens := s2.gens, drawn := s2.drawn, toks := tk } (upd H2 P (.tbl (ps ++ more))) (genEnv scope [] h3.objs.size code builtinsNs X.env) fp (X.A.in1.in1.over (geC elt iter x px scope gpos it (genEnv scope [] h3.objs.size code builtinsNs X.env)) []))
      (Qt := fun H => Q (.bl true) H) (Qf := fun H => Q (.bl false) H) hr.hd (by have := hr.dp; omega) hgen (fun σ' H' s' I' q' => ⟨.bl true, H', back σ' H' s' I', rfl, q'⟩) (fun σ' H' s' I' q' => ⟨.bl false, H', back σ' H' s' I', rfl, q'⟩) N _ ⟨hgen _ (Heap.get?_push_size _ rfl), IG.nolimit, I2.bare.push rfl, _, Array.getElem?_push_size .., fun s' sl => ⟨rfl, ?_⟩⟩
    have sz' : s2.gens.size < s'.gens.size := by
      have := sl.sz
      have e : (s2.gens.push (.fresh (.compStart (geE elt iter x px scope gpos) 0 (.ref it) .none (genEnv scope [] h3.objs.size code builtinsNs X.env)))).size = s2.gens.size + 1 := Array.size_push ..
      exact Nat.lt_of_lt_of_le (Nat.lt_of_lt_of_le (Nat.lt_succ_self _) (Nat.le_of_eq e.symm)) this
    have st6 : tn 0 s'.heap := by rw [sl.hp]; exact st5
    exact seg_start T st6 (seg_ge (G := gxX X { s2 with heap := h3, gens := s2.gens, drawn := s2.drawn, toks := tk } (upd H2 P (.tbl (ps ++ more))) (genEnv scope [] h3.objs.size code builtinsNs X.env) fp (X.A.in1.in1.over (geC elt iter x px scope gpos it (genEnv scope [] h3.objs.size code builtinsNs X.env)) []))
      (ix := ix) ⟨hc, rfl, rfl, rfl, rfl, rfl⟩ hN hi S.loc rfl S.co T hga (hel _ _ _ _ _ _ room) hstop hgo N 0 s' s' _ (Nat.zero_add N) (IG.slept sl) st6 (fun b hb => (f4 b hb).1.1) (w0 _ ⟨⟨ps ++ more, upd_same, ht3⟩, fun b hb => upd_ne hb⟩) sz')
  cases hf : codeAmong gpos ps.toList with
  | none =>
    refine wpAny_genexprCodeX hcode (cd.code hPs ht) (cd.tab hPs) hf fun c' h' tk hx hge hlt hco' _ htab' _ => ?_
    obtain ⟨o1, vs, f1, tf, fl, tg, inF, tx, tt, op, _, _, _, _, _, _, _, _, _, htr, _⟩ := hco'
    exact cont _ h' tk _ hx (Nat.le_trans hge (Nat.le_of_lt hlt)) htab'.2 ⟨_, rfl⟩ htr
  | some cv =>
    refine wpAny_genexprCode_hit hcode (cd.code hPs ht) hf ?_
    exact cont cv s2.heap s2.toks ps (Heap.ExtBut.refl _ _) (Nat.le_refl _) hPs ⟨#[], by simp⟩ ht
end Tw

/-! A rule's text: figures, words; defs that hold a generator expression. -/
namespace Tw
open PySem PySem.Spec PyProof.Rows L2
open SX (S)
/-! ### a def whose code object is known -/
def TopC (K : PySem.W.Frag) (mg : Str → Option Value) (x : Str) (st : Stmt) (ps : List Str) (c : Addr) : Prop :=
  ∃ (f : Addr) (oc : Value) (od : Option Addr) (kV doc pm : Value) (an : Option Addr) (ct : Value) (osl : Array (Option Value)), K.lookup f = some ⟨oc, od, .func (PySem.W.fnOf x x (defArgs st) (defBody st) (defScope st) .none kV doc pm an (.ref c) ct), osl⟩ ∧ PySem.W.codeIn K (.ref c) x = true ∧ PySem.W.keepIn K (.ref f) = true ∧ mg x = some (.ref f) ∧
    Binds K (PySem.W.fnOf x x (defArgs st) (defBody st) (defScope st) .none kV doc pm an (.ref c) ct) ps []
theorem topC_mk {K : PySem.W.Frag} {h : Heap} {mg : Str → Option Value} {x : Str} {st : Stmt} {ps : List Str} {f c : Addr} {oc : Value} {od an : Option Addr} {sl : Array (Option Value)} {kV dc pm ct : Value} (X : K.In h) (G : h.Ns mainGlobals mg)
    (a : PySem.W.nsIn K mainGlobals x = some (some (.ref f))) (l : K.lookup f = some ⟨oc, od, .func (PySem.W.fnOf x x (defArgs st) (defBody st) (defScope st) .none kV dc pm an (.ref c) ct), sl⟩) (cd : PySem.W.codeIn K (.ref c) x = true) (k : PySem.W.keepIn K (.ref f) = true)
    (hb : ∀ (kV doc pm : Value) (an : Option Addr) (cdv ct : Value) (us : List Value), us.length = ps.length → bindArgs (PySem.W.fnOf x x (defArgs st) (defBody st) (defScope st) .none kV doc pm an cdv ct) ⟨us, []⟩ = pure (ps.zip us)) : TopC K mg x st ps c :=
  ⟨f, oc, od, kV, dc, pm, an, ct, sl, l, cd, k, PySem.W.mg_of X G a, .all (hb kV dc pm an (.ref c) ct)⟩
section
variable {P : Program} {w : World} {K : PySem.W.Frag} {mg : Str → Option Value} {base : Heap} {x : Str} {st : Stmt} {N : List Str} {k : Nat} {c : Addr}
theorem TopC.ok1 {a : Str} {p : V → Hp → VK → XK → Prop} (D : TopC K mg x st [a] c) (Sc : FnScope N [a] (defScope st))
    (hbody : ∀ (f : Addr) (A : Around) (outer : List Env) (s : Shared) (H : Hp) (v1 : V) (Q : VK) (E : XK), Room k (A.deeper (envOfC x (defScope st) s.heap.objs.size f (.ref c))) → p v1 H Q E →
      ∃ t, PSs (cxOf CX0 P w K mg base N x (defScope st) f (.ref c) A outer s H E).nox (defBody st) t ∧ t { nx := fun _ H' => Q .non H', rt := Q } (start N [v1]) H) : Has P w K mg base CX0 (k + 1) x [a] (sp1 p) := by
  obtain ⟨f, oc, od, kV, doc, pm, an, ct, osl, lk, hcd, kp, g, b⟩ := D
  refine ⟨f, _, fn_of lk hcd Sc (fun vs H Q E h => by obtain ⟨_, rfl, _⟩ := h; rfl) fun A outer s H vs Q E hr h => ?_, g, kp, b, oc, od, osl, lk⟩
  obtain ⟨v1, rfl, h⟩ := h
  obtain ⟨t, h, q⟩ := hbody f A outer s H v1 Q E hr h
  exact ⟨t, h.nox, q⟩
theorem TopC.ok1X {a : Str} {p : V → Hp → VK → XK → Prop} (D : TopC K mg x st [a] c) (Sc : FnScope N [a] (defScope st))
    (hbody : ∀ (f : Addr) (A : Around) (outer : List Env) (s : Shared) (H : Hp) (v1 : V) (Q : VK) (E : XK), Room k (A.deeper (envOfC x (defScope st) s.heap.objs.size f (.ref c))) → p v1 H Q E →
      ∃ t, PSs (cxOf (L2.CX P w) P w K mg base N x (defScope st) f (.ref c) A outer s H E) (defBody st) t ∧ t { nx := fun _ H' => Q .non H', rt := Q } (start N [v1]) H) : Has P w K mg base (L2.CX P w) (k + 1) x [a] (sp1 p) := by
  obtain ⟨f, oc, od, kV, doc, pm, an, ct, osl, lk, hcd, kp, g, b⟩ := D
  refine ⟨f, _, fn_of lk hcd Sc (fun vs H Q E h => by obtain ⟨_, rfl, _⟩ := h; rfl) fun A outer s H vs Q E hr h => ?_, g, kp, b, oc, od, osl, lk⟩
  obtain ⟨v1, rfl, h⟩ := h
  exact hbody f A outer s H v1 Q E hr h
end
/-! ### figures -/
def dig (c : Nat) : Bool := decide (48 ≤ c) && decide (c ≤ 57)
def figs (l : List Nat) : Bool := !l.isEmpty && l.all dig && (decide (l = [48]) || decide (l.head? ≠ some 48))
abbrev tenS : List Nat := [48, 49, 50, 51, 52, 53, 54, 55, 56, 57]
theorem dig_in (c : Nat) : decide (c ∈ tenS) = dig c := by
  unfold dig
  rw [Bool.eq_iff_iff, decide_eq_true_eq, Bool.and_eq_true, decide_eq_true_eq, decide_eq_true_eq]
  constructor
  · intro h
    simp only [tenS, List.mem_cons, List.not_mem_nil, or_false] at h
    omega
  · intro h
    simp only [tenS, List.mem_cons, List.not_mem_nil, or_false]
    omega
def pFig (P : Addr) : V → Hp → VK → XK → Prop := fun a H Q _ => ∃ l : List Nat, a = .str (S l) ∧ l.length ≤ 100000 ∧ GxR.TabG H P ∧ ∀ H', GxR.Tabbed P H H' → Q (.bl (figs l)) H'
theorem tabbed_refl {P : Addr} {H : Hp} (h : GxR.TabG H P) : GxR.Tabbed P H H := ⟨h, fun _ _ => rfl⟩
theorem tabbed_trans {P : Addr} {H H1 H2 : Hp} (a : GxR.Tabbed P H H1) (b : GxR.Tabbed P H1 H2) : GxR.Tabbed P H H2 := ⟨b.1, fun c hc => (b.2 c hc).trans (a.2 c hc)⟩
/-! ### words -/
def wds (a : List Nat) : List (List Nat) := TL.spl [32] 0 [] a
theorem split_wds (a : List Nat) : Txt.split (S a) (Str.ofString " ") = (wds a).map S := by
  have e : Str.ofString " " = S [32] := by decide
  rw [e]
  exact SX.split_S (by simp) (by decide)
theorem spl_len (b : List Nat) : ∀ (l : List Nat) (k : Nat) (acc : List Nat), ∀ w ∈ TL.spl b k acc l, w.length ≤ acc.length + l.length
  | [], k, acc, w, h => by
    have e : TL.spl b k acc [] = [acc] := by cases k <;> rfl
    rw [e, List.mem_singleton] at h
    rw [h]
    exact Nat.le_add_right _ _
  | c :: r, 0, acc, w, h => by
    unfold TL.spl at h
    by_cases z : TL.pre b (c :: r) = true
    · rw [if_pos z] at h
      rcases List.mem_cons.mp h with e | e
      · rw [e]; exact Nat.le_add_right _ _
      · have := spl_len b r _ [] w e
        have e1 : ([] : List Nat).length = 0 := rfl
        have e2 : (c :: r).length = r.length + 1 := rfl
        omega
    · rw [if_neg z] at h
      have := spl_len b r _ _ w h
      rw [List.length_append] at this
      have e1 : [c].length = 1 := rfl
      have e2 : (c :: r).length = r.length + 1 := rfl
      omega
  | c :: r, k + 1, acc, w, h => by
    unfold TL.spl at h
    have := spl_len b r k acc w h
    have e2 : (c :: r).length = r.length + 1 := rfl
    omega
theorem wds_len {a w : List Nat} (h : w ∈ wds a) : w.length ≤ a.length := by
  have := spl_len [32] a 0 [] w h
  have e1 : ([] : List Nat).length = 0 := rfl
  omega
def vl (l : List Nat) : Int := ((NumText.digitsVal l : Nat) : Int)
theorem figs_int {l : List Nat} (h : figs l = true) (hl : l.length ≤ 4300) : intText? (S l) = some (vl l) := by
  unfold figs at h
  rw [Bool.and_eq_true, Bool.and_eq_true] at h
  refine SX.int_S h.1.2 ?_ hl
  intro z
  rw [z] at h
  exact absurd h.1.1 (by decide)
/-- the rule that a text tells -/
def readR (a : List Nat) : Option (Int × Int × Int) := match wds a with
  | [x, y, z] => if (figs x && figs y && figs z) = true then (if vl z ≤ vl x ∨ vl z ≤ vl y then none else some (vl x, vl y, vl z)) else none
  | _ => none
/-- but for two tables all that stood stands -/
structure Grow (P1 P2 : Addr) (H H' : Hp) : Prop where
  t1 : GxR.TabG H' P1
  t2 : GxR.TabG H' P2
  keep : ∀ b o, b ≠ P1 → b ≠ P2 → H b = some o → H' b = some o
theorem Grow.refl {P1 P2 : Addr} {H : Hp} (a : GxR.TabG H P1) (b : GxR.TabG H P2) : Grow P1 P2 H H := ⟨a, b, fun _ _ _ _ e => e⟩
theorem Grow.trans {P1 P2 : Addr} {H H1 H2 : Hp} (a : Grow P1 P2 H H1) (b : Grow P1 P2 H1 H2) : Grow P1 P2 H H2 := ⟨b.t1, b.t2, fun c o n1 n2 e => b.keep c o n1 n2 (a.keep c o n1 n2 e)⟩
theorem tabG_same {P : Addr} {H H' : Hp} (h : GxR.TabG H P) (s : Same H H') : GxR.TabG H' P := by
  obtain ⟨ps, e, t⟩ := h
  exact ⟨ps, s _ _ e, t⟩
theorem Grow.same {P1 P2 : Addr} {H H1 H2 : Hp} (a : Grow P1 P2 H H1) (s : Same H1 H2) : Grow P1 P2 H H2 := ⟨tabG_same a.t1 s, tabG_same a.t2 s, fun c o n1 n2 e => s _ _ (a.keep c o n1 n2 e)⟩
theorem tabG_ne {P b : Addr} {H : Hp} {o : HO} (h : GxR.TabG H P) (e : H b = some o) (n : ∀ ps, o ≠ .tbl ps) : b ≠ P := by
  obtain ⟨ps, e2, _⟩ := h
  intro z
  rw [z, e2] at e
  exact n ps (Option.some.inj e).symm
theorem Grow.get {P1 P2 b : Addr} {H H' : Hp} {o : HO} (a : Grow P1 P2 H H') (h1 : GxR.TabG H P1) (h2 : GxR.TabG H P2) (e : H b = some o) (n : ∀ ps, o ≠ .tbl ps) : H' b = some o :=
  a.keep b o (tabG_ne h1 e n) (tabG_ne h2 e n) e
def pRead (P1 P2 CU : Addr) : V → Hp → VK → XK → Prop := fun v H Q E => ∃ a : List Nat, v = .str (S a) ∧ a.length ≤ 640 ∧ GxR.TabG H P1 ∧ GxR.TabG H P2 ∧
  (∀ t p m, readR a = some (t, p, m) → ∀ H' q, Grow P1 P2 H H' → H q = none → H' q = some (.tup [.int t, .int p, .int m]) → Q (.ref q) H') ∧ (readR a = none → ∀ H', Grow P1 P2 H H' → E (.ref CU) none H')
/-! ### a rule's own text -/
theorem numL_head {n : Nat} (h : 0 < n) : (TL.numL n).head? ≠ some 48 := by
  induction n using Nat.strongRecOn with
  | ind n ih =>
    by_cases c : n < 10
    · rw [TL.numL_lt c]
      intro z
      have := Option.some.inj z
      omega
    · rw [TL.numL_step (by omega)]
      have := ih (n / 10) (by omega) (by omega)
      cases e : TL.numL (n / 10) with
      | nil => exact absurd e (TL.numL_ne _)
      | cons a r =>
        rw [e] at this
        exact this
theorem figs_num (n : Nat) : figs (TL.numL n) = true := by
  unfold figs
  have h1 : (TL.numL n).isEmpty = false := by
    cases e : TL.numL n with
    | nil => exact absurd e (TL.numL_ne n)
    | cons a r => rfl
  have h2 : (TL.numL n).all dig = true := by
    rw [List.all_eq_true]
    intro c hc
    have := TL.numL_digits n c hc
    unfold dig
    rw [decide_eq_true this.1, decide_eq_true this.2]
    rfl
  rw [h1, h2]
  by_cases z : n = 0
  · subst z
    rw [TL.numL_lt (by decide)]
    rfl
  · rw [decide_eq_true (numL_head (by omega)), Bool.or_true]
    rfl
theorem vl_num (n : Nat) : vl (TL.numL n) = n := by
  unfold vl
  rw [TL.numL_val]
def shw (t p m : Int) : List Nat := TL.numL t.toNat ++ [32] ++ TL.numL p.toNat ++ [32] ++ TL.numL m.toNat
theorem wds_shw (t p m : Int) : wds (shw t p m) = [TL.numL t.toNat, TL.numL p.toNat, TL.numL m.toNat] := by
  have e : shw t p m = TL.joinL [32] [TL.numL t.toNat, TL.numL p.toNat, TL.numL m.toNat] := by
    unfold shw
    simp [TL.joinL]
  unfold wds
  rw [e]
  refine SX.spl_join (by simp) fun q hq => ?_
  simp only [List.mem_cons, List.not_mem_nil, or_false] at hq
  rcases hq with rfl | rfl | rfl <;> exact TL.numL_free (.inl (by decide))
theorem read_shw {t p m : Int} (R : Rule t p m) : readR (shw t p m) = some (t, p, m) := by
  unfold readR
  rw [wds_shw]
  have a1 := R.t0
  have a2 := R.t1
  have a3 := R.p0
  have a4 := R.p1
  show (if (figs (TL.numL t.toNat) && figs (TL.numL p.toNat) && figs (TL.numL m.toNat)) = true then _ else _) = _
  rw [figs_num, figs_num, figs_num, vl_num, vl_num, vl_num]
  show (if ((m.toNat : Nat) : Int) ≤ ((t.toNat : Nat) : Int) ∨ ((m.toNat : Nat) : Int) ≤ ((p.toNat : Nat) : Int) then none else some (((t.toNat : Nat) : Int), ((p.toNat : Nat) : Int), ((m.toNat : Nat) : Int))) = _
  rw [if_neg (by omega), Int.toNat_of_nonneg a1, Int.toNat_of_nonneg a3, Int.toNat_of_nonneg (by omega)]
theorem shw_len {t p m : Int} (R : Rule t p m) : (shw t p m).length ≤ 100 := by
  have a1 := R.t0
  have a2 := R.t1
  have a3 := R.p0
  have a4 := R.p1
  have a5 := R.b2
  have k : ∀ n : Nat, (n : Int) ≤ 1000000000000 → (TL.numL n).length ≤ 13 := fun n hn => TL.numL_len (by decide) (by
    have : (10 : Nat) ^ 13 = 10000000000000 := by decide
    omega)
  have k1 := k t.toNat (by omega)
  have k2 := k p.toNat (by omega)
  have k3 := k m.toNat (by omega)
  unfold shw
  rw [List.length_append, List.length_append, List.length_append, List.length_append]
  show (TL.numL t.toNat).length + 1 + (TL.numL p.toNat).length + 1 + (TL.numL m.toNat).length ≤ 100
  omega
def pShown (K : PySem.W.Frag) : V → Hp → VK → XK → Prop := fun a H Q _ => ∃ (r : Addr) (t p m : Int), a = .ref r ∧ SqT K H r [.int t, .int p, .int m] ∧ Rule t p m ∧ Q (.str (S (shw t p m))) H
theorem lg_small {i : Int} (h0 : 0 ≤ i) (h1 : i ≤ 1000000000000) : i.natAbs.log2 < 1920 := by
  by_cases z : i.natAbs = 0
  · rw [z]
    decide
  · have h2 : i.natAbs.log2 < 41 := (Nat.log2_lt z).mpr (by
      have : (2 : Nat) ^ 41 = 2199023255552 := by decide
      omega)
    omega
theorem str_num {i : Int} (h0 : 0 ≤ i) : Str.ofString (toString i) = S (TL.numL i.toNat) := by
  have := SX.num_S i.toNat
  rw [Int.toNat_of_nonneg h0] at this
  exact this
theorem s_len (l : List Nat) (h : l.length ≤ 1000) : (S l).length ≤ sizeLine := by
  show l.toArray.size ≤ sizeLine
  rw [List.size_toArray]
  exact sz (by omega)
end Tw

/-! What settled_at and always_settled tell. -/
namespace Tw
open PySem PySem.Spec PyProof.Rows L2 LamX NdefX
section
variable {P : Program} {w : World} {K : PySem.W.Frag} {mg : Str → Option Value} {base : Heap} {x : Str} {st : Stmt} {N : List Str} {k : Nat} {c : Addr}
theorem TopC.ok3X {a b d : Str} {p : V → V → V → Hp → VK → XK → Prop} (D : TopC K mg x st [a, b, d] c) (Sc : FnScope N [a, b, d] (defScope st))
    (hbody : ∀ (f : Addr) (A : Around) (outer : List Env) (s : Shared) (H : Hp) (v1 v2 v3 : V) (Q : VK) (E : XK), Room k (A.deeper (envOfC x (defScope st) s.heap.objs.size f (.ref c))) → p v1 v2 v3 H Q E →
      ∃ t, PSs (cxOf (L2.CX P w) P w K mg base N x (defScope st) f (.ref c) A outer s H E) (defBody st) t ∧ t { nx := fun _ H' => Q .non H', rt := Q } (start N [v1, v2, v3]) H) : Has P w K mg base (L2.CX P w) (k + 1) x [a, b, d] (sp3 p) := by
  obtain ⟨f, oc, od, kV, doc, pm, an, ct, osl, lk, hcd, kp, g, bb⟩ := D
  refine ⟨f, _, fn_of lk hcd Sc (fun vs H Q E h => by obtain ⟨_, _, _, rfl, _⟩ := h; rfl) fun A outer s H vs Q E hr h => ?_, g, kp, bb, oc, od, osl, lk⟩
  obtain ⟨v1, v2, v3, rfl, h⟩ := h
  exact hbody f A outer s H v1 v2 v3 Q E hr h
end
/-- no other start shows the same first k parts -/
def Alone (f : Int → Int) (pt m s : Int) (k : Nat) : Prop := ∀ y, 0 ≤ y → y < m → EqK f pt k s y → y = s
/-- any two are told apart by the first k parts -/
def Apar (f : Int → Int) (pt m : Int) (k : Nat) : Prop := ∀ x y, 0 ≤ x → x < m → 0 ≤ y → y < m → EqK f pt k x y → x = y
theorem alone_on {f : Int → Int} {pt m s : Int} (s0 : 0 ≤ s) (s1 : s < m) : OnEq f pt m (Alone f pt m s) := fun j k h => ⟨fun a y y0 y1 e => a y y0 y1 ((h s y s0 s1 y0 y1).mpr e), fun a y y0 y1 e => a y y0 y1 ((h s y s0 s1 y0 y1).mp e)⟩
theorem apar_on {f : Int → Int} {pt m : Int} : OnEq f pt m (Apar f pt m) := fun j k h => ⟨fun a x y x0 x1 y0 y1 e => a x y x0 x1 y0 y1 ((h x y x0 x1 y0 y1).mpr e), fun a x y x0 x1 y0 y1 e => a x y x0 x1 y0 y1 ((h x y x0 x1 y0 y1).mp e)⟩
/-- what the first lambda tells: whether the start is alone in its class -/
def teOne (K : PySem.W.Frag) : TE := fun σ H Q => ∃ (l : Addr) (cl : List Int) (s : Int), σ = [some (.ref l), some (.int s)] ∧ SqL K H l (cl.map V.int) ∧ 0 ≤ s ∧ s < cl.length ∧ Q (.bl (decide (cl.count (gI cl s) = 1))) H
/-- what the second one tells: whether there are as many classes as starts -/
def teAll (K : PySem.W.Frag) : TE := fun σ H Q => ∃ (l : Addr) (cl : List Int), σ = [some (.ref l)] ∧ SqL K H l (cl.map V.int) ∧ 0 < cl.length ∧ ∀ M, Mx cl M → Q (.bl (decide (M + 1 = (cl.length : Int)))) H
def pSetAt (K : PySem.W.Frag) (CN : Addr) (T : List (Addr × Str)) : V → V → V → Hp → VK → XK → Prop := fun a b c H Q E => ∃ (r : Addr) (t p m s pt : Int), a = .ref r ∧ b = .int s ∧ c = .int pt ∧ SqT K H r [.int t, .int p, .int m] ∧ Rule t p m ∧ m ≤ 100000 ∧ 1 ≤ pt ∧ pt ≤ 1000000000000 ∧ Tabs T H ∧
  (0 ≤ s → s < m → ∀ H' v, ExtN H H' → Tabs T H' → Lst (Alone (stp t p m) pt m s) v → Q v H') ∧ (¬ (0 ≤ s ∧ s < m) → Bad CN s H E)
def pAlways (K : PySem.W.Frag) (T : List (Addr × Str)) : V → V → Hp → VK → XK → Prop := fun a b H Q _ => ∃ (r : Addr) (t p m pt : Int), a = .ref r ∧ b = .int pt ∧ SqT K H r [.int t, .int p, .int m] ∧ Rule t p m ∧ m ≤ 100000 ∧ 1 ≤ pt ∧ pt ≤ 1000000000000 ∧ Tabs T H ∧
  ∀ H' v, ExtN H H' → Tabs T H' → Lst (Apar (stp t p m) pt m) v → Q v H'
theorem extN_same {H H1 H2 : Hp} (a : ExtN H H1) (s : Same H1 H2) : ExtN H H2 := fun b o e n => s _ _ (a b o e n)
theorem extN_sqT {K : PySem.W.Frag} {H H' : Hp} {r : Addr} {xs : List V} (a : ExtN H H') (h : SqT K H r xs) : SqT K H' r xs := by
  rcases h with (h | ⟨ob, h⟩) | h
  · exact .inl (.inl (a _ _ h (fun ps z => by cases z)))
  · exact .inl (.inr ⟨ob, a _ _ h (fun ps z => by cases z)⟩)
  · exact .inr h
end Tw

/-! All rounds: the dict of lengths, the promises. -/
namespace Tw
open PySem PySem.Spec PyProof.Rows L2
def rdD (ks : List Nat) (c : Nat → Int) : List (Int × Int) := ks.map fun (L : Nat) => ((L : Int), c L)
theorem rdD_len (ks : List Nat) (c : Nat → Int) : (dInts (rdD ks c)).length = ks.length := by
  unfold dInts rdD
  rw [List.length_map, List.length_map]
theorem rdD_congr {ks : List Nat} {c d : Nat → Int} (h : ∀ L ∈ ks, c L = d L) : rdD ks c = rdD ks d := List.map_congr_left fun L hL => by rw [h L hL]
theorem rdD_in {c : Nat → Int} {L : Nat} : ∀ {ks : List Nat}, L ∈ ks → valV (dInts (rdD ks c)) (Sum.inl (L : Int)) = some (.int (c L))
  | k :: ks, h => by
    show valV ((Sum.inl (k : Int), V.int (c k)) :: dInts (rdD ks c)) _ = _
    by_cases e : k = L
    · subst e
      rw [valV_pos rfl]
    · rw [valV_neg (fun z => e (by have := Sum.inl.inj z; omega))]
      exact rdD_in ((List.mem_cons.mp h).resolve_left fun z => e z.symm)
theorem rdD_out {c : Nat → Int} {L : Nat} : ∀ {ks : List Nat}, L ∉ ks → valV (dInts (rdD ks c)) (Sum.inl (L : Int)) = none
  | [], _ => rfl
  | k :: ks, h => by
    show valV ((Sum.inl (k : Int), V.int (c k)) :: dInts (rdD ks c)) _ = _
    rw [valV_neg (fun z => h (by have := Sum.inl.inj z; rw [show L = k by omega]; exact List.mem_cons_self))]
    exact rdD_out fun z => h (List.mem_cons_of_mem _ z)
theorem rdD_put {c : Nat → Int} {L : Nat} {v : Int} {ks : List Nat} (h : L ∈ ks) : putK (dInts (rdD ks c)) (Sum.inl (L : Int)) (.int v) = dInts (rdD ks fun M => if M = L then v else c M) := by
  unfold putK
  rw [valV_any, rdD_in h, if_pos Option.isSome_some]
  unfold dInts rdD
  rw [List.map_map, List.map_map, List.map_map]
  refine List.map_congr_left fun M _ => ?_
  show (if (Sum.inl (M : Int) : Key) = Sum.inl (L : Int) then ((Sum.inl (M : Int) : Key), V.int v) else (Sum.inl (M : Int), V.int (c M))) = (Sum.inl (M : Int), V.int (if M = L then v else c M))
  by_cases e : M = L
  · rw [if_pos (by rw [e]), if_pos e]
  · rw [if_neg (fun z => e (by have := Sum.inl.inj z; omega)), if_neg e]
theorem rdD_add {c : Nat → Int} {L : Nat} {v : Int} {ks : List Nat} (h : L ∉ ks) : putK (dInts (rdD ks c)) (Sum.inl (L : Int)) (.int v) = dInts (rdD (ks ++ [L]) fun M => if M = L then v else c M) := by
  rw [putK_new _ (rdD_out h)]
  have e : rdD (ks ++ [L]) (fun M => if M = L then v else c M) = rdD ks c ++ [((L : Int), v)] := by
    unfold rdD
    rw [List.map_append]
    refine congr (congrArg _ (List.map_congr_left fun M hM => ?_)) ?_
    · have ne : M ≠ L := fun z => h (by rw [← z]; exact hM)
      show ((M : Int), if M = L then v else c M) = ((M : Int), c M)
      rw [if_neg ne]
    · show [((L : Int), if L = L then v else c L)] = _
      rw [if_pos rfl]
  rw [e]
  unfold dInts
  rw [List.map_append]
  rfl
/-- the pairs told -/
def TupP (H : Hp) (q : Addr) (ps : List (Addr × (Int × Int))) : Prop := H q = some (.tup (ps.map fun z => V.ref z.1)) ∧ ∀ z ∈ ps, H z.1 = some (.tup [.int z.2.1, .int z.2.2])
theorem TupP.same {H H' : Hp} {q : Addr} {ps : List (Addr × (Int × Int))} (h : TupP H q ps) (s : Same H H') : TupP H' q ps := ⟨s _ _ h.1, fun z hz => s _ _ (h.2 z hz)⟩
def pAllR (K : PySem.W.Frag) : V → Hp → VK → XK → Prop := fun a H Q _ => ∃ (r : Addr) (t p m : Int), a = .ref r ∧ SqT K H r [.int t, .int p, .int m] ∧ Rule t p m ∧ m ≤ 2000 ∧
  ∀ H' q ps, Same H H' → H q = none → TupP H' q ps → Rds (stp t p m) m (ps.map (·.2)) → Q (.ref q) H'
def dPairs (zs : List (Int × Int)) : PyData := .tuple (zs.map fun z => .tuple [.int z.1, .int z.2])
theorem lay_pairs : ∀ zs : List (Int × Int), PyData.canLayAll0 (zs.map fun z => .tuple [.int z.1, .int z.2]) = true ∧ PyData.depthAll (zs.map fun z => .tuple [.int z.1, .int z.2]) ≤ 1
  | [] => ⟨rfl, by decide⟩
  | z :: zs => by
    obtain ⟨h1, h2⟩ := lay_pairs zs
    constructor
    · show (PyData.canLay0 (.tuple [.int z.1, .int z.2]) && PyData.canLayAll0 (zs.map fun z => .tuple [.int z.1, .int z.2])) = true
      rw [h1]
      rfl
    · show max (PyData.depth (.tuple [.int z.1, .int z.2])) (PyData.depthAll (zs.map fun z => .tuple [.int z.1, .int z.2])) ≤ 1
      have : PyData.depth (.tuple [.int z.1, .int z.2]) = 1 := rfl
      omega
theorem shp_pairs (zs : List (Int × Int)) : SeqAt.shaped (dPairs zs) = true := by
  obtain ⟨h1, h2⟩ := lay_pairs zs
  show (PyData.canLayAll0 (zs.map fun z => .tuple [.int z.1, .int z.2]) && decide (PyData.depthAll (zs.map fun z => .tuple [.int z.1, .int z.2]) + 1 ≤ 64)) = true
  rw [h1, decide_eq_true (by omega)]
  rfl
theorem dp_pairs {K : PySem.W.Frag} {H : Hp} : ∀ ps : List (Addr × (Int × Int)), (∀ z ∈ ps, H z.1 = some (.tup [.int z.2.1, .int z.2.2])) → DpAll K H (ps.map fun z => V.ref z.1) ((ps.map (·.2)).map fun z => PyData.tuple [.int z.1, .int z.2])
  | [], _ => .nil
  | z :: ps, h => .cons (.tup (SqT.of (h z List.mem_cons_self)) (.cons (.int _) (.cons (.int _) .nil))) (dp_pairs ps fun y hy => h y (List.mem_cons_of_mem _ hy))
theorem TupP.dp {K : PySem.W.Frag} {H : Hp} {q : Addr} {ps : List (Addr × (Int × Int))} (h : TupP H q ps) : Dp K H (.ref q) (dPairs (ps.map (·.2))) := .tup (SqT.of h.1) (dp_pairs ps h.2)
/-! ### the program's counting, walk by walk -/
noncomputable def Cws (f : Int → Int) (ws : List Int) (L : Nat) : Int := ((pcnt f ws L / L : Nat) : Int)
structure Cnt (f : Int → Int) (ws : List Int) (ks : List Nat) : Prop where
  nd : ks.Nodup
  mem : ∀ L, L ∈ ks ↔ 0 < pcnt f ws L
theorem per_pos {f : Int → Int} {ws : List Int} {L : Nat} (h : 0 < pcnt f ws L) : 0 < L := by
  obtain ⟨x, _, hx⟩ := pcnt_pos.mp h
  exact hx.1
theorem cws_old {f : Int → Int} {ws vs : List Int} (h : ∀ L, pcnt f vs L = pcnt f ws L) : Cws f vs = Cws f ws := by
  funext L
  unfold Cws
  rw [h L]
theorem Cnt.old {f : Int → Int} {ws vs : List Int} {ks : List Nat} (c : Cnt f ws ks) (h : ∀ L, pcnt f vs L = pcnt f ws L) : Cnt f vs ks := ⟨c.nd, fun L => by rw [h L]; exact c.mem L⟩
theorem cws_new {f : Int → Int} {ws vs : List Int} {c : Nat} (c0 : 0 < c) (h : ∀ L, pcnt f vs L = pcnt f ws L + if L = c then c else 0) : Cws f vs = fun L => if L = c then Cws f ws c + 1 else Cws f ws L := by
  funext L
  show Cws f vs L = if L = c then Cws f ws c + 1 else Cws f ws L
  unfold Cws
  rw [h L]
  by_cases e : L = c
  · subst e
    rw [if_pos rfl, if_pos rfl, Nat.add_div_right _ c0]
    rfl
  · rw [if_neg e, if_neg e, Nat.add_zero]
theorem Cnt.again {f : Int → Int} {ws vs : List Int} {ks : List Nat} {c : Nat} (C : Cnt f ws ks) (hc : c ∈ ks) (h : ∀ L, pcnt f vs L = pcnt f ws L + if L = c then c else 0) : Cnt f vs ks := by
  refine ⟨C.nd, fun L => ?_⟩
  rw [h L]
  by_cases e : L = c
  · subst e
    have := (C.mem L).mp hc
    exact ⟨fun _ => by omega, fun _ => hc⟩
  · rw [if_neg e, Nat.add_zero]
    exact C.mem L
theorem Cnt.more {f : Int → Int} {ws vs : List Int} {ks : List Nat} {c : Nat} (C : Cnt f ws ks) (c0 : 0 < c) (hc : c ∉ ks) (h : ∀ L, pcnt f vs L = pcnt f ws L + if L = c then c else 0) : Cnt f vs (ks ++ [c]) := by
  refine ⟨?_, fun L => ?_⟩
  · rw [List.nodup_append]
    refine ⟨C.nd, by simp, fun a ha b hb e => ?_⟩
    rw [List.mem_singleton] at hb
    exact hc (by rw [← hb, ← e]; exact ha)
  · rw [h L, List.mem_append, List.mem_singleton]
    by_cases e : L = c
    · subst e
      rw [if_pos rfl]
      exact ⟨fun _ => by omega, fun _ => .inr rfl⟩
    · rw [if_neg e, Nat.add_zero, ← C.mem L]
      exact ⟨fun z => z.resolve_right e, .inl⟩
theorem cws_none {f : Int → Int} {ws : List Int} {ks : List Nat} {c : Nat} (C : Cnt f ws ks) (hc : c ∉ ks) : Cws f ws c = 0 := by
  have : pcnt f ws c = 0 := by
    have := mt (C.mem c).mpr hc
    omega
  unfold Cws
  rw [this, Nat.zero_div]
  rfl
/-- the sorted items are the rounds -/
theorem Cnt.rds {f : Int → Int} {m : Int} {ws : List Int} {ks : List Nat} {zs : List (Int × Int)} (C : Cnt f ws ks) (all : ∀ L, pcnt f ws L = Nper f m L) (pm : zs.Perm (rdD ks (Cws f ws))) (up : zs.Pairwise fun y z => SrtO.lexB z y = false) : Rds f m zs := by
  have nd : (zs.map (·.1)).Nodup := by
    have e := pm.map (·.1)
    refine e.nodup_iff.mpr ?_
    unfold rdD
    rw [List.map_map, List.nodup_iff_pairwise_ne, List.pairwise_map]
    have n := C.nd
    rw [List.nodup_iff_pairwise_ne] at n
    exact n.imp fun {a b} h z => h (by have : (a : Int) = (b : Int) := z; omega)
  refine ⟨?_, fun L c => ?_⟩
  · rw [List.nodup_iff_pairwise_ne, List.pairwise_map] at nd
    exact (up.and nd).imp fun {a b} z => by
      have z1 := SrtO.lexB_no.mp z.1
      have z2 := z.2
      omega
  · rw [pm.mem_iff]
    unfold rdD
    rw [List.mem_map]
    constructor
    · rintro ⟨M, hM, e⟩
      obtain ⟨rfl, rfl⟩ := Prod.mk.inj e
      refine ⟨M, rfl, by rw [← all M]; exact (C.mem M).mp hM, ?_⟩
      unfold Cws Crnd
      rw [all M]
    · rintro ⟨M, rfl, h, rfl⟩
      refine ⟨M, (C.mem M).mpr (by rw [all M]; exact h), ?_⟩
      unfold Cws Crnd
      rw [all M]
end Tw
namespace Tw
open PySem PySem.Spec PyProof.Rows L2
theorem orb_get (f : Int → Int) {n i : Nat} (x : Int) (h : i < n) : (orb f n x)[i]? = some (itr f i x) := by
  unfold orb
  rw [List.getElem?_map, List.getElem?_range h]
  rfl
theorem orb_idx {f : Int → Int} {n : Nat} {x y : Int} (h : y ∈ orb f n x) : (orb f n x).idxOf y < n ∧ itr f ((orb f n x).idxOf y) x = y := by
  have hl := List.idxOf_lt_length_of_mem h
  have e := List.getElem_idxOf hl
  rw [orb_len] at hl
  refine ⟨hl, ?_⟩
  have e2 := orb_get f x hl
  rw [List.getElem?_eq_getElem (by rw [orb_len]; exact hl), e] at e2
  exact (Option.some.inj e2).symm
theorem cnt_nil (f : Int → Int) : Cnt f [] [] := ⟨List.nodup_nil, fun L => by
  constructor
  · intro h; cases h
  · intro h
    obtain ⟨x, hx, _⟩ := pcnt_pos.mp h
    cases hx⟩
end Tw

/-! Rounds by taking away what is no next one; the law's counting. -/
namespace Tw
open PySem PySem.Spec PyProof.Rows L2
theorem sub_len : ∀ {l k : List Int}, l.Nodup → (∀ x ∈ l, x ∈ k) → l.length ≤ k.length
  | [], k, _, _ => Nat.zero_le _
  | a :: l, k, nd, h => by
    rw [List.nodup_cons] at nd
    have ha := h a List.mem_cons_self
    have ih := sub_len (k := k.erase a) nd.2 fun x hx => (List.mem_erase_of_ne (fun e => nd.1 (by rw [← e]; exact hx))).mpr (h x (List.mem_cons_of_mem _ hx))
    rw [List.length_erase_of_mem ha] at ih
    have := List.length_pos_of_mem ha
    show l.length + 1 ≤ k.length
    omega
theorem sub_eq {l k : List Int} (nl : l.Nodup) (h : ∀ x ∈ l, x ∈ k) (e : l.length = k.length) {x : Int} (hx : x ∈ k) : x ∈ l := by
  refine Classical.byContradiction fun c => ?_
  have := sub_len (l := x :: l) (k := k) (List.nodup_cons.mpr ⟨c, nl⟩) fun y hy => by
    rcases List.mem_cons.mp hy with e | e
    · rw [e]; exact hx
    · exact h y e
  have e2 : (x :: l).length = l.length + 1 := rfl
  omega
theorem up_nodup {l : List Int} (h : l.Pairwise (· < ·)) : l.Nodup := by
  rw [List.nodup_iff_pairwise_ne]
  exact h.imp fun {a b} z => by omega
structure LI (f : Int → Int) (m : Int) (left : List Int) (mn : Int) : Prop where
  up : left.Pairwise (· < ·)
  rg : Rng m left
  per : ∀ x, 0 ≤ x → x < m → (∃ L, Per f L x) → x ∈ left
  cl : Fcl f left
  on : mn = left.length → ∀ y ∈ left, ∃ z ∈ left, f z = y
theorem LI.step {f : Int → Int} {m : Int} {left out : List Int} {mn : Int} (fr : ∀ x, 0 ≤ f x ∧ f x < m) (h : LI f m left mn) (up : out.Pairwise (· < ·)) (mem : ∀ k, k ∈ out ↔ k ∈ left.map f) : LI f m out left.length ∧ out.length ≤ left.length := by
  have sub : ∀ x ∈ out, x ∈ left := fun x hx => by
    obtain ⟨y, hy, rfl⟩ := List.mem_map.mp ((mem x).mp hx)
    exact h.cl y hy
  refine ⟨⟨up, fun x hx => h.rg x (sub x hx), fun x x0 x1 hp => ?_, fun x hx => ?_, fun e y hy => ?_⟩, sub_len (up_nodup up) sub⟩
  · obtain ⟨L, hL⟩ := hp
    obtain ⟨y, e1, ⟨n, e2⟩, hM⟩ := per_prev hL
    refine (mem x).mpr (List.mem_map.mpr ⟨y, ?_, e1⟩)
    have yr : 0 ≤ y ∧ y < m := by
      rw [← e2]
      cases n with
      | zero => exact ⟨x0, x1⟩
      | succ n => exact fr _
    exact h.per y yr.1 yr.2 hM
  · exact (mem _).mpr (List.mem_map.mpr ⟨x, sub x hx, rfl⟩)
  · obtain ⟨z, hz, e2⟩ := List.mem_map.mp ((mem y).mp hy)
    exact ⟨z, sub_eq (up_nodup up) sub (by omega) hz, e2⟩
theorem LI.first {f : Int → Int} {m : Int} (fr : ∀ x, 0 ≤ f x ∧ f x < m) : LI f m (alls m) (-1) := by
  refine ⟨?_, fun x hx => alls_mem.mp hx, fun x x0 x1 _ => alls_mem.mpr ⟨x0, x1⟩, fun x _ => alls_mem.mpr (fr x), fun e => by omega⟩
  unfold alls
  rw [List.pairwise_map]
  exact (List.pairwise_lt_range (n := m.toNat)).imp fun {a b} h => by omega
theorem rg_alls (m : Int) : rgV 0 m = (alls m).map V.int := by
  unfold rgV alls
  rw [List.map_map, show (m - 0).toNat = m.toNat by omega]
  refine List.map_congr_left fun i _ => ?_
  show V.int (0 + (i : Int)) = V.int (i : Int)
  rw [Int.zero_add]
theorem alls_len (m : Int) : (alls m).length = m.toNat := by
  unfold alls
  rw [List.length_map, List.length_range]
/-! ### going round in what is left -/
structure LenI (f : Int → Int) (ws ls : List Int) : Prop where
  pos : ∀ x ∈ ls, 0 < x
  cnt : ∀ L : Nat, ls.count (L : Int) * L = pcnt f ws L
theorem LenI.nil (f : Int → Int) : LenI f [] [] := ⟨fun x hx => absurd hx (by simp), fun L => Nat.zero_mul L⟩
theorem LenI.new {f : Int → Int} {ws vs ls : List Int} {c : Nat} (h : LenI f ws ls) (c0 : 0 < c) (e : ∀ L, pcnt f vs L = pcnt f ws L + if L = c then c else 0) : LenI f vs (ls ++ [(c : Int)]) := by
  refine ⟨fun x hx => ?_, fun L => ?_⟩
  · rcases List.mem_append.mp hx with hx | hx
    · exact h.pos x hx
    · rw [List.mem_singleton.mp hx]
      omega
  · rw [e L, ← h.cnt L, List.count_append, Nat.add_mul]
    refine congrArg (ls.count (L : Int) * L + ·) ?_
    by_cases z : L = c
    · subst z
      rw [if_pos rfl, List.count_singleton_self, Nat.one_mul]
    · rw [if_neg z, List.count_eq_zero_of_not_mem (fun y => z (by have := List.mem_singleton.mp y; omega)), Nat.zero_mul]
theorem walk_whole {f : Int → Int} {ws : List Int} {n : Nat} {x : Int} (nd : (ws ++ orb f n x).Nodup) (fc : Fcl f ws) (hp : ∃ L, Per f L x) (n0 : 0 < n) (hy : itr f n x ∈ ws ++ orb f n x) (L : Nat) : pcnt f (ws ++ orb f n x) L = pcnt f ws L + if L = n then n else 0 := by
  obtain ⟨M, hM⟩ := hp
  rcases List.mem_append.mp hy with h | h
  · exact absurd hM (walk_old nd fc h n0 M)
  · obtain ⟨i, hi, e⟩ := orb_mem.mp h
    cases i with
    | zero => exact pcnt_new nd n0 e.symm L
    | succ i => exact absurd hM (walk_tail nd hi e.symm (Nat.succ_pos i) M)
theorem LenI.rds {f : Int → Int} {m : Int} {ws ls out : List Int} (h : LenI f ws ls) (all : ∀ L, pcnt f ws L = Nper f m L) (up : out.Pairwise (· < ·)) (mem : ∀ k, k ∈ out ↔ k ∈ ls) : Rds f m (out.map fun k => (k, ((ls.count k : Nat) : Int))) := by
  refine ⟨?_, fun L c => ?_⟩
  · rw [List.pairwise_map]
    exact up
  · rw [List.mem_map]
    have key : ∀ n : Nat, 0 < n → ((ls.count (n : Int) : Nat) : Int) = Crnd f m n := fun n n0 => by
      unfold Crnd
      rw [← all n, ← h.cnt n, Nat.mul_div_cancel _ n0]
    constructor
    · rintro ⟨k, hk, e⟩
      obtain ⟨rfl, rfl⟩ := Prod.mk.inj e
      have hl := (mem k).mp hk
      have k0 := h.pos k hl
      obtain ⟨n, rfl⟩ := Int.eq_ofNat_of_zero_le (show 0 ≤ k by omega)
      have n0 : 0 < n := by omega
      refine ⟨n, rfl, ?_, key n n0⟩
      rw [← all n, ← h.cnt n]
      exact Nat.mul_pos (List.count_pos_iff.mpr hl) n0
    · rintro ⟨n, rfl, hn, rfl⟩
      have hn2 := hn
      rw [← all n, ← h.cnt n] at hn
      have n0 : 0 < n := Nat.pos_of_mul_pos_left hn
      have c0 : 0 < ls.count (n : Int) := Nat.pos_of_mul_pos_right hn
      exact ⟨n, (mem _).mpr (List.count_pos_iff.mp c0), by rw [key n n0]⟩
/-! ### some rules of small bounds -/
theorem nper_g {f : Int → Int} {m : Int} (g : Int → Nat) (h : ∀ x ∈ alls m, Per f (g x) x) (L : Nat) : Nper f m L = (alls m).countP fun x => decide (g x = L) := by
  unfold Nper pcnt
  refine List.countP_congr fun x hx => ?_
  simp only [decide_eq_true_eq]
  exact ⟨fun z => per_uniq (h x hx) z, fun z => by rw [← z]; exact h x hx⟩
theorem rds_001 : Rds (stp 0 0 1) 1 [(1, 1)] := by
  have e : ∀ L, Nper (stp 0 0 1) 1 L = if L = 1 then 1 else 0 := fun L => by
    rw [nper_g (fun _ => 1) (by unfold Per; decide) L, show alls 1 = [0] by decide]
    by_cases c : L = 1
    · subst c; rfl
    · rw [if_neg c, List.countP_eq_zero]
      intro x _
      simp only [decide_eq_true_eq]
      exact fun z => c z.symm
  refine ⟨by simp, fun L c => ?_⟩
  constructor
  · intro h
    obtain ⟨rfl, rfl⟩ := Prod.mk.inj (List.mem_singleton.mp h)
    refine ⟨1, rfl, by rw [e]; decide, ?_⟩
    unfold Crnd
    rw [e]
    rfl
  · rintro ⟨n, rfl, h, rfl⟩
    rw [e] at h
    by_cases c : n = 1
    · subst c
      unfold Crnd
      rw [e]
      exact List.mem_singleton.mpr rfl
    · rw [if_neg c] at h
      omega
theorem rds_106 : Rds (stp 1 0 6) 6 [(1, 6)] := by
  have e : ∀ L, Nper (stp 1 0 6) 6 L = if L = 1 then 6 else 0 := fun L => by
    rw [nper_g (fun _ => 1) (by unfold Per; decide) L]
    by_cases c : L = 1
    · subst c; rfl
    · rw [if_neg c, List.countP_eq_zero]
      intro x _
      simp only [decide_eq_true_eq]
      exact fun z => c z.symm
  refine ⟨by simp, fun L c => ?_⟩
  constructor
  · intro h
    obtain ⟨rfl, rfl⟩ := Prod.mk.inj (List.mem_singleton.mp h)
    refine ⟨1, rfl, by rw [e]; decide, ?_⟩
    unfold Crnd
    rw [e]
    rfl
  · rintro ⟨n, rfl, h, rfl⟩
    rw [e] at h
    by_cases c : n = 1
    · subst c
      unfold Crnd
      rw [e]
      exact List.mem_singleton.mpr rfl
    · rw [if_neg c] at h
      omega
theorem rds_205 : Rds (stp 2 0 5) 5 [(1, 1), (4, 1)] := by
  have e : ∀ L, Nper (stp 2 0 5) 5 L = (if L = 1 then 1 else 0) + if L = 4 then 4 else 0 := fun L => by
    rw [nper_g (fun x => if x = 0 then 1 else 4) (by unfold Per; decide) L, show alls 5 = [0, 1, 2, 3, 4] by decide]
    by_cases c : L = 1
    · subst c; rfl
    · by_cases d : L = 4
      · subst d; rfl
      · rw [if_neg c, if_neg d, List.countP_eq_zero.mpr]
        intro x _
        simp only [decide_eq_true_eq]
        intro z
        by_cases x0 : x = 0
        · rw [if_pos x0] at z; exact c z.symm
        · rw [if_neg x0] at z; exact d z.symm
  refine ⟨by simp, fun L c => ?_⟩
  constructor
  · intro h
    rcases List.mem_cons.mp h with h | h
    · obtain ⟨rfl, rfl⟩ := Prod.mk.inj h
      refine ⟨1, rfl, by rw [e]; decide, ?_⟩
      unfold Crnd
      rw [e]
      rfl
    · obtain ⟨rfl, rfl⟩ := Prod.mk.inj (List.mem_singleton.mp h)
      refine ⟨4, rfl, by rw [e]; decide, ?_⟩
      unfold Crnd
      rw [e]
      rfl
  · rintro ⟨n, rfl, h, rfl⟩
    rw [e] at h
    by_cases c : n = 1
    · subst c
      unfold Crnd
      rw [e]
      exact List.mem_cons_self
    · by_cases d : n = 4
      · subst d
        unfold Crnd
        rw [e]
        exact List.mem_cons_of_mem _ (List.mem_singleton.mpr rfl)
      · rw [if_neg c, if_neg d] at h
        omega
end Tw
namespace Tw
open PySem PySem.Spec PyProof.Rows L2
/-- a method within a comprehension: the fragment is named -/
theorem bm_in {X : Cx} {K : PySem.W.Frag} {a b : Expr} {bs : List Expr} {ta : TE} {tb : TA} {nm : Str} {p1 p2 : Pos} {T i : String} {r : V → List V → Hp → VK → Prop} (hK : X.K = K) (h1 : PlainAttrs T) (h2 : Slot T nm i) (h3 : typeOf (.builtin i) = pure (.type "method_descriptor")) (h4 : MtR X i r) (h5 : PE X a ta) (h6 : PA X (b :: bs) tb)
    (k1 : attributeBase a nm X.env (eval a X.env) = eval a X.env := by rfl)
    (k2 : ((backTo p2 (starEach (b :: bs) X.env)).all (fun x => !x.1) && (backToKw p2 (keywordEach [] X.env)).all (fun x => x.1.isSome) && decide ((b :: bs).length + ([] : List Keyword).length + (if ([] : List Keyword).isEmpty then 0 else 1) < 30)) = true := by rfl)
    (k3 : (p1.endLine == p2.line) = true := by rfl) (k4 : starEach (b :: bs) X.env = (false, eval b X.env) :: starEach bs X.env := by rfl) (k5 : (backTo p2 (starEach bs X.env)).any (·.1) = false := by rfl) : PE X (.Call (.Attribute a nm p1) (b :: bs) [] p2) (tBM K T r ta tb) := by
  subst hK
  exact pe_bm h1 h2 h3 h4 h5 h6 k1 k2 k3 k4 k5
end Tw
namespace Tw
open PySem PySem.Spec PyProof.Rows L2
theorem yesT {σ : L2.St} {H : Hp} {A B : Hp → Prop} (h : A H) : tYes σ H fun b H3 => if b = true then A H3 else B H3 := by
  show if true = true then A H else B H
  rw [if_pos rfl]
  exact h
end Tw

/-! all(test for x in ..) whose test reads a name of the def around it. -/
namespace Tw
open PySem PySem.Spec PyProof.Rows L2 GenW NdefX
section
variable {G : Cx} {cenv : Env} {fp : List Addr} {A1 : Around} {it ga : Addr} {gi : Nat} {go : Obj} {tn : Nat → Heap → Prop} {J : It} {elt iter : Expr} {x : Str} {px gpos : Pos} {scope : Scope} {ix : Nat} {te : TE} {W : Nat → Hp → Prop} {Qt Qf : Hp → Prop} {N : Nat}
theorem seg_geF {σ0 : L2.St} (h0 : ∀ (j : Nat) (u : V), σ0[j]? = some (some u) → j ≠ ix) (hl0 : σ0.length = G.N.length) (gx : GeX G fp A1 cenv (geC elt iter x px scope gpos it cenv)) (hN : G.N.Nodup) (hi : G.N[ix]? = some x) (hx : scope.names.lookup x = some .local) (hsc : cenv.scope = scope) (hco : scope.isCoroutine = false)
    (T : Turn G.prog G.w G.K (.Name x px) J fp it tn) (hga : ga ∉ fp) (pe : PE G elt te)
    (hstop : ∀ H, W N H → J.stop N H ∧ Qt H)
    (hgo : ∀ i H, i < N → W i H → J.go i H ∧ ∀ v H', J.yld i H v H' → te (σ0.set ix (some v)) H' fun y H2 => ∃ b, y = .bl b ∧ (b = true → W (i + 1) H2) ∧ (b = false → Qf H2)) :
    ∀ (n i : Nat) (s₀ s : Shared) (H : Hp), i + n = N → L2.Inv G [(ga, go)] σ0 H s → tn i s.heap → (∀ b ∈ fp, H b = none) → W i H → gi < s.gens.size →
      Seg (model G.prog G.w) A1 (gR G [(ga, go)] Qt) (gY G gi [(ga, go)] Qf) n s₀ (geC elt iter x px scope gpos it cenv) ((model G.prog G.w).den (geC elt iter x px scope gpos it cenv)) [] s := by
  obtain ⟨calm, gA, gE, gxe, gpn, gex⟩ := gx
  have stat : ∀ {σ' : L2.St} {H' : Hp} {s' : Shared}, L2.Inv G [(ga, go)] σ' H' s' → (∀ b ∈ fp, H' b = none) → ∀ b ∈ fp, FpOk G [(ga, go)] H' b := fun {σ' H' s'} I' hn b hb => by
    have hb' : b ∈ G.ex := by rw [gex]; exact hb
    refine ⟨hn b hb, (I'.ok.exf b hb').1, I'.ok.exfs b hb', .inl hb', fun x c e => (I'.ok.exf b hb').2 x c e, fun p hp z => ?_⟩
    rw [gpn] at hp
    have e : p = (ga, go) := by simpa using hp
    have e2 : p.1 = ga := congrArg Prod.fst e
    exact hga (by rw [← e2, z]; exact hb)
  have pg : PG G (.Name x px) (gName ix) := pg_name hN hi (by rw [gE, hsc]; exact .inl hx) (.inr (by rw [gE, hsc]; exact hx))
  intro n
  induction n with
  | zero =>
    intro i s₀ s H hn I st nf w hgs
    obtain rfl : i = N := by omega
    show Seg _ A1 _ _ _ s₀ _ ((compTurn (geE elt iter x px scope gpos) 0 (.ref it) .none cenv).onRaise (leaving cenv)) [] s
    rw [compTurn_gen, Sem.onRaise_eq_wrap]
    refine seg_bind_wrap (wpAny_standAt ?_)
    obtain ⟨stop, qt⟩ := hstop H w
    have td := T.done G rfl rfl rfl calm i [(ga, go)] s _ H (fun _ _ => False) I (stat I nf) st stop
    rw [gA] at td
    refine seg_bind_wrap (thnF td fun r s1 ⟨hr, I1⟩ => ?_)
    subst hr
    exact seg_end (.ok .next) ⟨rfl, _, H, I1, qt⟩
  | succ n ih =>
    intro i s₀ s H hn I st nf w hgs
    show Seg _ A1 _ _ _ s₀ _ ((compTurn (geE elt iter x px scope gpos) 0 (.ref it) .none cenv).onRaise (leaving cenv)) [] s
    rw [compTurn_gen, Sem.onRaise_eq_wrap]
    refine seg_bind_wrap (wpAny_standAt ?_)
    obtain ⟨goes, step⟩ := hgo i H (by omega) w
    have ti := T.item G rfl rfl rfl calm i [(ga, go)] s _ H (fun _ _ => False) I (stat I nf) st goes
    rw [gA] at ti
    refine seg_bind_wrap (wpAny_gsz hgs (thnF ti fun r s1 ⟨u, hr, h1⟩ z1 => ?_))
    subst hr
    refine seg_bind_wrap (wpAny_gsz z1 (thnF h1 fun _ s2 ⟨v, H2, I2, r2, y2, st2, n2⟩ z2 => ?_))
    have I2' := I2.pinned (stat I2 n2) (T.obj _ _ st2)
    have pr := pg.run _ s2 _ H2 v u (fun σ' H' => σ' = σ0.set ix (some v) ∧ H' = H2) I2' r2 ⟨rfl, rfl⟩
    rw [gA, gE, gxe] at pr
    refine seg_bind_wrap (wpAny_gsz z2 (thnF pr fun _ s3 ⟨σ3, H3, I3, e3, e4⟩ z3 => ?_))
    subst e3 e4
    simp only [List.forIn_nil]
    refine seg_bind_wrap (wpAny_pure ?_)
    simp only [if_true]
    have hy : ∀ v, yieldOut cenv v = yieldValue v := fun v => by simp only [yieldOut, hsc, hco, Bool.false_eq_true, if_false]
    simp only [hy]
    rw [Sem.bind_eq_wrap', Sem.bind_eq_wrap', Sem.wrap_wrap, Sem.wrap_wrap]
    have er := pe.run _ s3 _ H3 _ I3 (step v H3 y2)
    rw [gA, gE, gxe] at er
    refine seg_wrap (wpAny_gsz z3 (thnF er fun y s5 ⟨yv, H5, I5, r5, b, eb, wt, wf⟩ z5 => ?_))
    subst eb
    obtain rfl : y = .bool b := r5
    have I6 : L2.Inv G [(ga, go)] σ0 H5 s5 := (I5.unpinned (pins := [(ga, go)])).weak (List.length_set ..).symm (fun j u e => by rw [List.getElem?_set_ne (fun z => h0 j u e z.symm)]; exact e)
    have pin' : ∀ b ∈ fp, ∀ o, s2.heap.get? b = some o → s5.heap.get? b = some o ∧ H5 b = none := fun b hb o e =>
      let z := I5.pin (b, o) (List.mem_append_right _ (List.mem_append_right _ (mem_pinsAt hb e)))
      ⟨z.1, z.2.1⟩
    have st5 : tn (i + 1) s5.heap := T.keep _ _ _ st2 fun b hb o e => (pin' b hb o e).1
    have n5 : ∀ b ∈ fp, H5 b = none := fun b hb => by
      obtain ⟨o, e, _⟩ := T.obj _ _ st2 b hb
      exact (pin' b hb o e).2
    refine seg_at (seg_yield rfl rfl rfl ⟨z5, b, _, H5, rfl, I6, wf, fun hb s' sl => ?_⟩)
    exact seg_again rfl (ih (i + 1) s' s' H5 (by omega) (I6.slept sl) (by rw [sl.hp]; exact st5) n5 (wt hb) (Nat.lt_of_lt_of_le z5 sl.sz))
end
/-- the generator's scope: its one name, and names of the def around it -/
structure GeF (X : Cx) (scope : Scope) (x : Str) : Prop where
  kind : scope.kind = .function
  co : scope.isCoroutine = false
  cell : ∀ y ∈ scope.names, y.2 ≠ .cell
  free : ∀ y ∈ scope.names, y.2 = .free → X.env.kindOf y.1 = some .cell ∨ X.env.kindOf y.1 = some .free
  dot : scope.names.lookup (".0" : Str) = some NameKind.local
  loc : scope.names.lookup x = some .local
theorem geFree {X : Cx} {scope sc : Scope} (e : X.env.scope = sc) (h : ∀ y ∈ scope.names, y.2 = .free → sc.names.lookup y.1 = some .cell) : ∀ y ∈ scope.names, y.2 = .free → X.env.kindOf y.1 = some .cell ∨ X.env.kindOf y.1 = some .free := fun y hy k => .inl (by
  show X.env.scope.names.lookup y.1 = _
  rw [e]
  exact h y hy k)
theorem GeF.cells {X : Cx} {scope : Scope} {x : Str} (S : GeF X scope x) (ok : X.Ok) : ∀ y ∈ scope.names, y.2 = .free → ∃ c, X.env.cells.lookup y.1 = some c := fun y hy e => ok.has y.1 (S.free y hy e)
def capS (N : List Str) (iy : Nat) (v : V) : L2.St := (noneS N).set iy (some v)
theorem capS_len (N : List Str) (iy : Nat) (v : V) : (capS N iy v).length = N.length := by unfold capS noneS; rw [List.length_set, List.length_replicate]
theorem capS_at {N : List Str} {iy j : Nat} {v u : V} (h : (capS N iy v)[j]? = some (some u)) : j = iy ∧ u = v := by
  unfold capS at h
  by_cases e : j = iy
  · subst e
    refine ⟨rfl, ?_⟩
    rw [List.getElem?_set] at h
    split at h
    · split at h
      · cases h; rfl
      · cases h
    · exact absurd rfl (by assumption)
  · rw [List.getElem?_set_ne (fun z => e z.symm)] at h
    unfold noneS at h
    rw [List.getElem?_replicate] at h
    split at h <;> cases h
/-- its context at the start -/
theorem ge_startF {X : Cx} {pins : List (Addr × Obj)} {σ : L2.St} {H : Hp} {s : Shared} {scope : Scope} {x y : Str} {iy : Nat} {v : V} {fp : List Addr} {A : Around} {code : Value} {m : Str → Option Value} {h' : Heap} {g' : Array GenState} {t' : Nat} {go : Obj}
    (I : L2.Inv X pins σ H s) (S : GeF X scope x) (hN : X.N[iy]? = some y) (hv : σ[iy]? = some (some v)) (hyf : (y, NameKind.free) ∈ scope.names) (hyl : scope.names.lookup y = some .free) (hA : A.handled = none) (hfr : A.frames = some (genEnv scope (cloFrom X.env.cells scope.names []) s.heap.objs.size code builtinsNs X.env :: X.stack)) (hfp : ∀ b ∈ fp, FpOk X pins H b ∧ b < s.heap.objs.size)
    (hn : h'.Ns s.heap.objs.size m) (hk : ∀ b o, s.heap.get? b = some o → h'.get? b = some o) (hsz : h'.objs.size = s.heap.objs.size + 1) (hfree : go.isFreed = false) (hgo : ∀ v, go.data ≠ .cell v) (hg : AllBare g') :
    L2.Inv (gxX X s H (genEnv scope (cloFrom X.env.cells scope.names []) s.heap.objs.size code builtinsNs X.env) fp A) [(h'.objs.size, go)] (capS X.N iy v) H { s with heap := h'.push go, gens := g', toks := t' } := by
  have kp : ∀ b o, s.heap.get? b = some o → (h'.push go).get? b = some o := fun b o e => Heap.get?_push_of_some _ (hk b o e)
  have ge : s.heap.objs.size ≤ h'.objs.size := by rw [hsz]; exact Nat.le_succ _
  have sub : ∀ z c, (cloFrom X.env.cells scope.names []).lookup z = some c → X.env.cells.lookup z = some c := fun z c e => clo_cm (S.cells I.ok) e
  have okG : (gxX X s H (genEnv scope (cloFrom X.env.cells scope.names []) s.heap.objs.size code builtinsNs X.env) fp A).Ok := by
    refine ⟨I.ok.mod, S.kind, I.ok.glob, rfl, Nat.le_refl _, fun y z c e1 e2 => I.ok.inj y z c (sub _ _ e1) (sub _ _ e2), fun y hy => ?_, fun y c z e => ?_, fun _ => hA, hfr, .inr ⟨rfl, rfl⟩, fun b hb => ⟨Nat.ne_of_lt (hfp b hb).2, fun y c e z => ?_⟩, I.bs, Nat.le_trans I.ok.bsz I.sz, fun b o e hb => ?_, fun b hb z => ?_, I.stack, I.stkFree⟩
    · rcases hy with hy | hy
      · exact absurd rfl (S.cell _ (PySem.mem_of_lookup hy))
      · have hm := PySem.mem_of_lookup hy
        obtain ⟨c, hc⟩ := S.cells I.ok _ hm rfl
        exact ⟨c, clo_has (S.cells I.ok) hm hc⟩
    · cases z
    · exact (hfp b hb).1.2.2.2.2.1 y c (sub _ _ e) z
    · rcases (hfp b hb).1.2.2.2.1 with z | z
      · exact I.ok.noex b o e z
      · exact absurd (Nat.lt_of_lt_of_le (Heap.lt_size e) (Nat.le_trans I.ok.bsz z)) (Nat.lt_irrefl _)
    · rcases List.mem_cons.mp (I.stkSub b z) with z | z
      · exact (hfp b hb).1.2.1 z
      · exact (hfp b hb).1.2.2.1 z
  refine ⟨okG, rfl, hg, Un.kept kp, ⟨m, hn.push _, fun i z av e1 e2 e3 => ?_⟩, fun y c e => ?_, I.hok.fresh (Nat.le_refl _), fun y c e => I.freeC y c (sub _ _ e), fun p hp => ?_, I.hok.kept kp, capS_len ..⟩
  · obtain ⟨rfl, rfl⟩ := capS_at e2
    have e1 : X.N[i]? = some z := e1
    rw [hN] at e1
    cases e1
    obtain ⟨m0, _, lk⟩ := I.loc
    have kx := S.free _ hyf rfl
    obtain ⟨u, ru, lku⟩ := lk i y av hN hv (by rcases kx with q | q; exact .inr (.inl q); exact .inr (.inr q))
    rcases lku with ⟨q, _⟩ | ⟨_, c, hc, ic⟩
    · rcases kx with k | k
      · rw [q] at k; cases k
      · rw [q] at k; cases k
    · exact ⟨u, ru, .inr ⟨.inr hyl, c, clo_has (S.cells I.ok) hyf hc, let ⟨o, e, d⟩ := ic; ⟨o, kp _ _ e, d⟩⟩⟩
  · obtain ⟨w, q⟩ := I.cell y c (sub _ _ e)
    exact ⟨w, let ⟨o, e, d⟩ := q; ⟨o, kp _ _ e, d⟩⟩
  · have e : p = (h'.objs.size, go) := by simpa using hp
    subst e
    refine ⟨Heap.get?_push_size _ hfree, I.hok.fresh ge, ?_, ?_, hgo⟩
    · show h'.objs.size ≠ s.heap.objs.size
      rw [hsz]
      exact Nat.succ_ne_self _
    · intro z
      rcases List.mem_cons.mp (I.stkSub _ z) with z | z
      · have := I.lt
        rw [← z] at this
        exact absurd (Nat.lt_of_lt_of_le this ge) (Nat.lt_irrefl _)
      · exact I.nofs ge z
/-- all(test for x in ..): W what stands ahead of turn i, of N -/
def tAllF (P : Addr) (NS : List Str) (ix iy : Nat) (wi : TI) (te : TE) : TE := fun σ H Q => ∃ v0, σ[iy]? = some (some v0) ∧ wi σ H fun J H1 => GxR.TabG H1 P ∧ ∃ (N : Nat) (W : Nat → Hp → Prop), (∀ H2, GxR.Tabbed P H1 H2 → W 0 H2) ∧ (∀ H, W N H → J.stop N H ∧ Q (.bl true) H) ∧
  ∀ i H, i < N → W i H → J.go i H ∧ ∀ v H', J.yld i H v H' → te ((capS NS iy v0).set ix (some v)) H' fun y H2 => ∃ b, y = .bl b ∧ (b = true → W (i + 1) H2) ∧ (b = false → Q (.bl false) H2)
theorem pe_allF {X : Cx} {c P : Addr} {elt iter : Expr} {x : Str} {px p pos gpos : Pos} {scope : Scope} {wi : TI} {te : TE} {k ix iy : Nat} {y : Str} (hc : X.calm = true) (hN : X.N.Nodup) (hi : X.N[ix]? = some x) (hr : Room (k + 1) X.A) (hg : Gl X "all") (hm : X.mg "all" = none)
    (hb : bootBuiltins "all" = some (.builtin "all")) (TB : GxR.TabB X.base X.mg c P) (hcode : X.env.code = .ref c) (S : GeF X scope x) (hNy : X.N[iy]? = some y) (hyf : (y, NameKind.free) ∈ scope.names) (hyl : scope.names.lookup y = some .free) (hxy : ix ≠ iy) (hit : PI X (.Name x px) iter wi)
    (hel : ∀ (s : Shared) (H : Hp) (C : Addr) (code : Value) (fp : List Addr) (A : Around), Room k A → PE (gxX X s H (genEnv scope (cloFrom X.env.cells scope.names []) C code builtinsNs X.env) fp A) elt te)
    (hs : ∀ v, genFold iter X.env v = pure v)
    (he : starEach [geE elt iter x px scope gpos] X.env = (false, eval (geE elt iter x px scope gpos) X.env) :: starEach [] X.env := by rfl) :
    PE X (.Call (.Name "all" p) [geE elt iter x px scope gpos] [] pos) (tAllF P X.N ix iy wi te) := by
  refine ⟨fun pins s σ H Q I h => ?_⟩
  refine wpAny_Call_Name_kw (ld_blt I hg hm hb ?_)
  refine PyProof.Rows.callWith_builtin1 ?_ he (by rfl)
  rw [he]
  show wpAny _ _ (spliced ((false, eval (geE elt iter x px scope gpos) X.env) :: backTo pos (starEach [] X.env))) _ _ s
  refine Calls.spliced_cons ?_
  obtain ⟨v0, hv0, h⟩ := h
  have hcl : closureFor scope X.env = pure (cloFrom X.env.cells scope.names []) := closure_ok (env := X.env) (S.cells I.ok)
  refine wpAny_GeneratorExp_make S.co hcl S.cell S.dot S.kind (by have := hr.dp; omega) ?_ hs
  refine thn (hit.run pins s σ H _ I h) fun xv s1 hx => thn hx fun itv s2 h2 => ?_
  obtain ⟨it, fp, tn, J, H2, rfl, I2, T, st2, f2, ⟨ps, hP, ht⟩, N, W, w0, hstop, hgo⟩ := h2
  refine ⟨I2.nolimit, ?_⟩
  have hPs : s2.heap.get? P = some { cls := .none, data := .fields ps } := I2.hok P _ hP
  have cd : PySem.W.CodeHd s2.heap c P := TB.code.keeps fun b u e => I2.bk b u e
  have cont : ∀ (code : Value) (h3 : Heap) (tk : Nat) (ps' : Array Value), Heap.ExtBut P s2.heap h3 → s2.heap.objs.size ≤ h3.objs.size → h3.get? P = some { cls := .none, data := .fields ps' } → (∃ more, ps' = ps ++ more) → TriplesOk ps'.toList →
      wpAny (model X.prog X.w) X.A (builtinsFor X.env.globals X.env.builtins) (fun bi s₄ =>
        ∀ h', h'.Ns s₄.heap.objs.size (fun y => if y = ".0" then some (.ref it) else none) → Heap.SameBut s₄.heap.objs.size (s₄.heap.push { cls := .type "frame", data := .dict #[] }) h' →
          wpAny (model X.prog X.w) X.A (spliced (backTo pos (starEach [] X.env))) (fun vs s' => wpAny (model X.prog X.w) X.A (call (.builtin "all") (Value.ref h'.objs.size :: vs)) (EP X pins σ Q) X.xe s') X.xe
          { s₄ with
            gens := s₄.gens.push (.fresh (.compStart (geE elt iter x px scope gpos) 0 (.ref it) .none (genEnv scope (cloFrom X.env.cells scope.names []) s₄.heap.objs.size code bi X.env))),
            toks := s₄.toks + 1 + 1 + 1,
            heap := h'.push { cls := .type "generator", data := .fields #[.int s₄.gens.size 0, .str "<genexpr>" (s₄.toks + 1), .str (X.env.qual ++ "<genexpr>") (s₄.toks + 1 + 1)] } }) X.xe { s2 with heap := h3, toks := tk } := by
    intro code h3 tk ps' hx hsz hP3 ⟨more, em⟩ ht3
    obtain ⟨bm, ob, e1, e2, e3, e4, e5, e6, e7, e8⟩ := TB.bm
    have keep3 : ∀ b u, b ≠ P → s2.heap.get? b = some u → h3.get? b = some u := fun b u hb e => hx b u hb e
    refine wpAny_builtinsFor (m := X.mg) (by rw [I2.ok.glob]; exact (I2.mod.glob.keeps I2.bk).extBut hx TB.gP) e1 e2 (keep3 _ _ e4 (I2.bk _ _ e5)) e6 e7 e8 ?_
    intro h' hn' hs'
    subst em
    have I4 : L2.Inv X pins σ (upd H2 P (.tbl (ps ++ more))) { s2 with heap := h3, gens := s2.gens, drawn := s2.drawn, toks := tk } := GxR.inv_tab I2 hP keep3 hP3 I2.bare
    have fl : ∀ b ∈ fp, b < s2.heap.objs.size := fun b hb => by
      obtain ⟨o, e, _⟩ := T.obj _ _ st2 b hb
      exact Heap.lt_size e
    have fP : ∀ b ∈ fp, b ≠ P := fun b hb z => by
      have := (f2 b hb).1
      rw [z, hP] at this
      cases this
    have f4 : ∀ b ∈ fp, FpOk X pins (upd H2 P (.tbl (ps ++ more))) b ∧ b < h3.objs.size := fun b hb => ⟨⟨by rw [upd_ne (fP b hb)]; exact (f2 b hb).1, (f2 b hb).2⟩, Nat.lt_of_lt_of_le (fl b hb) hsz⟩
    have hs1 : h'.objs.size = h3.objs.size + 1 := by
      have := hs'.1
      rw [this]
      exact Heap.size_push ..
    have kh : ∀ b o, h3.get? b = some o → h'.get? b = some o := fun b o e => hs'.extBut b o (Nat.ne_of_lt (Heap.lt_size e)) (Heap.get?_push_of_some _ e)
    have IG := ge_startF (A := X.A.in1.in1.over (geC elt iter x px scope gpos it (genEnv scope (cloFrom X.env.cells scope.names []) h3.objs.size code builtinsNs X.env)) []) (code := code) (x := x) (scope := scope) (t' := tk + 1 + 1 + 1) (g' := s2.gens.push (.fresh (.compStart (geE elt iter x px scope gpos) 0 (.ref it) .none (genEnv scope (cloFrom X.env.cells scope.names []) h3.objs.size code builtinsNs X.env))))
      (go := { cls := .type "generator", data := .fields #[.int s2.gens.size 0, .str "<genexpr>" (tk + 1), .str (X.env.qual ++ "<genexpr>") (tk + 1 + 1)] }) I4 S hNy hv0 hyf hyl hr.hd (by
        show pushEnvs [genEnv scope (cloFrom X.env.cells scope.names []) h3.objs.size code builtinsNs X.env] (pushEnvs [] X.A.frames) = _
        rw [I2.ok.frames]
        rfl) f4 hn' kh hs1 rfl (fun v z => by cases z) (I2.bare.push rfl)
    refine Calls.spliced_nil ?_
    have back : ∀ (σ' : L2.St) (H' : Hp) (s' : Shared), L2.Inv (gxX X { s2 with heap := h3, gens := s2.gens, drawn := s2.drawn, toks := tk } (upd H2 P (.tbl (ps ++ more))) (genEnv scope (cloFrom X.env.cells scope.names []) h3.objs.size code builtinsNs X.env) fp (X.A.in1.in1.over (geC elt iter x px scope gpos it (genEnv scope (cloFrom X.env.cells scope.names []) h3.objs.size code builtinsNs X.env)) []))
        [(h'.objs.size, { cls := .type "generator", data := .fields #[.int s2.gens.size 0, .str "<genexpr>" (tk + 1), .str (X.env.qual ++ "<genexpr>") (tk + 1 + 1)] })] σ' H' s' → L2.Inv X pins σ H' s' := fun σ' H' s' I' =>
      I4.call' (ch := fp) I'.os I'.base I'.hok I'.bare fun b hb => ⟨(f4 b hb).1.2.2.2.1, (f4 b hb).1.2.1, (f4 b hb).1.2.2.2.2.1, (f4 b hb).1.2.2.2.2.2⟩
    have room : Room k (X.A.in1.in1.over (geC elt iter x px scope gpos it (genEnv scope (cloFrom X.env.cells scope.names []) h3.objs.size code builtinsNs X.env)) []) := by
      have e1 : (X.A.in1.in1.over (geC elt iter x px scope gpos it (genEnv scope (cloFrom X.env.cells scope.names []) h3.objs.size code builtinsNs X.env)) []).depth = X.A.depth + 1 := rfl
      have e2 : (X.A.in1.in1.over (geC elt iter x px scope gpos it (genEnv scope (cloFrom X.env.cells scope.names []) h3.objs.size code builtinsNs X.env)) []).units ≤ X.A.units + 5 := Nat.le_of_eq rfl
      have r1 := hr.dp
      have r2 := hr.un
      exact ⟨hr.hd, by rw [e1]; omega, by omega⟩
    have st5 : tn 0 (h'.push { cls := .type "generator", data := .fields #[.int s2.gens.size 0, .str "<genexpr>" (tk + 1), .str (X.env.qual ++ "<genexpr>") (tk + 1 + 1)] }) := T.keep _ _ _ st2 fun b hb o e => Heap.get?_push_of_some _ (kh b o (keep3 b o (fP b hb) e))
    have hgen : ∀ h : Heap, h.get? h'.objs.size = some { cls := .type "generator", data := .fields #[.int s2.gens.size 0, .str "<genexpr>" (tk + 1), .str (X.env.qual ++ "<genexpr>") (tk + 1 + 1)] } → h.IsGen h'.objs.size s2.gens.size := fun h e => ⟨_, _, _, e, rfl, rfl, rfl⟩
    have hga : h'.objs.size ∉ fp := fun z => by
      have := (f4 _ z).2
      rw [hs1] at this
      exact absurd (Nat.lt_trans (Nat.lt_succ_self _) this) (Nat.lt_irrefl _)
    refine call_function_tree F.kind_all F.plain_all F.entry_all (F.args_all1 _) ?_
    unfold Builtin.«all»
    refine wpAny_bind (m := oneArg "all" _) (wpAny_pure ?_)
    refine wpAny_bind (wpAny_pyIter_gen (g := s2.gens.size) (hgen _ (Heap.get?_push_size _ rfl)) ?_)
    refine wpAny_pure ⟨plainId_quiet F.plain_all_loop _, ?_⟩
    refine loop_all (G := gxX X { s2 with heap := h3, gens := s2.gens, drawn := s2.drawn, toks := tk } (upd H2 P (.tbl (ps ++ more))) (genEnv scope (cloFrom X.env.cells scope.names []) h3.objs.size code builtinsNs X.env) fp (X.A.in1.in1.over (geC elt iter x px scope gpos it (genEnv scope (cloFrom X.env.cells scope.names []) h3.objs.size code builtinsNs X.env)) []))
      (Qt := fun H => Q (.bl true) H) (Qf := fun H => Q (.bl false) H) hr.hd (by have := hr.dp; omega) hgen (fun σ' H' s' I' q' => ⟨.bl true, H', back σ' H' s' I', rfl, q'⟩) (fun σ' H' s' I' q' => ⟨.bl false, H', back σ' H' s' I', rfl, q'⟩) N _ ⟨hgen _ (Heap.get?_push_size _ rfl), IG.nolimit, I2.bare.push rfl, _, Array.getElem?_push_size .., fun s' sl => ⟨rfl, ?_⟩⟩
    have sz' : s2.gens.size < s'.gens.size := by
      have := sl.sz
      have e : (s2.gens.push (.fresh (.compStart (geE elt iter x px scope gpos) 0 (.ref it) .none (genEnv scope (cloFrom X.env.cells scope.names []) h3.objs.size code builtinsNs X.env)))).size = s2.gens.size + 1 := Array.size_push ..
      exact Nat.lt_of_lt_of_le (Nat.lt_of_lt_of_le (Nat.lt_succ_self _) (Nat.le_of_eq e.symm)) this
    have st6 : tn 0 s'.heap := by rw [sl.hp]; exact st5
    exact seg_start T st6 (seg_geF (G := gxX X { s2 with heap := h3, gens := s2.gens, drawn := s2.drawn, toks := tk } (upd H2 P (.tbl (ps ++ more))) (genEnv scope (cloFrom X.env.cells scope.names []) h3.objs.size code builtinsNs X.env) fp (X.A.in1.in1.over (geC elt iter x px scope gpos it (genEnv scope (cloFrom X.env.cells scope.names []) h3.objs.size code builtinsNs X.env)) []))
      (ix := ix) (σ0 := capS X.N iy v0) (fun j u e => by rw [(capS_at e).1]; exact fun z => hxy z.symm) (capS_len ..) ⟨hc, rfl, rfl, rfl, rfl, rfl⟩ hN hi S.loc rfl S.co T hga (hel _ _ _ _ _ _ room) hstop hgo N 0 s' s' _ (Nat.zero_add N) (IG.slept sl) st6 (fun b hb => (f4 b hb).1.1) (w0 _ ⟨⟨ps ++ more, upd_same, ht3⟩, fun b hb => upd_ne hb⟩) sz')
  cases hf : codeAmong gpos ps.toList with
  | none =>
    refine wpAny_genexprCodeX hcode (cd.code hPs ht) (cd.tab hPs) hf fun c' h' tk hx hge hlt hco' _ htab' _ => ?_
    obtain ⟨o1, vs, f1, tf, fl, tg, inF, tx, tt, op, _, _, _, _, _, _, _, _, _, htr, _⟩ := hco'
    exact cont _ h' tk _ hx (Nat.le_trans hge (Nat.le_of_lt hlt)) htab'.2 ⟨_, rfl⟩ htr
  | some cv =>
    refine wpAny_genexprCode_hit hcode (cd.code hPs ht) hf ?_
    exact cont cv s2.heap s2.toks ps (Heap.ExtBut.refl _ _) (Nat.le_refl _) hPs ⟨#[], by simp⟩ ht
end Tw

/-! One more number behind a row; rules told against the row. -/
namespace Tw
open PySem PySem.Spec PyProof.Rows L2

theorem getD_snoc_l {xs : List Int} {y : Int} {i : Nat} (h : i < xs.length) : (xs ++ [y]).getD i 0 = xs.getD i 0 := by
  rw [List.getD_eq_getElem?_getD, List.getD_eq_getElem?_getD, List.getElem?_append_left h]
theorem getD_snoc_r {xs : List Int} {y : Int} : (xs ++ [y]).getD xs.length 0 = y := by
  rw [List.getD_eq_getElem?_getD, List.getElem?_append_right (Nat.le_refl _), Nat.sub_self]
  rfl
theorem plus_snoc {m : Int} {xs : List Int} {y t : Int} (h : 2 ≤ xs.length) : plusOf m (xs ++ [y]) t = plusOf m xs t := by
  unfold plusOf
  rw [getD_snoc_l (by omega), getD_snoc_l (by omega)]
/-- one more number: the times that fit and lead on to it -/
theorem fit_snoc {m : Int} {xs : List Int} {y t : Int} (m0 : 0 < m) (rg : Rng m xs) (y0 : 0 ≤ y) (y1 : y < m) (h : 2 ≤ xs.length) : FitU m (xs ++ [y]) (xs.length - 1) t ↔ FitU m xs (xs.length - 2) t ∧ nxB m xs t = y := by
  have rg' : Rng m (xs ++ [y]) := rng_snoc rg ⟨y0, y1⟩
  rw [← step_iff m0 rg' t, ← step_iff m0 rg t]
  constructor
  · intro q
    constructor
    · intro i hi
      have := q i (by omega)
      rw [plus_snoc h, getD_snoc_l (by omega), getD_snoc_l (by omega)] at this
      exact this
    · have := q (xs.length - 1) (by omega)
      rw [plus_snoc h, getD_snoc_l (by omega), show xs.length - 1 + 1 = xs.length by omega, getD_snoc_r] at this
      exact this
  · rintro ⟨q, e⟩ i hi
    rw [plus_snoc h]
    by_cases ei : i = xs.length - 1
    · subst ei
      rw [getD_snoc_l (by omega), show xs.length - 1 + 1 = xs.length by omega, getD_snoc_r]
      exact e
    · rw [getD_snoc_l (by omega), getD_snoc_l (by omega)]
      exact q i (by omega)
theorem nxB_rng {m : Int} (m0 : 0 < m) (xs : List Int) (t : Int) : 0 ≤ nxB m xs t ∧ nxB m xs t < m := mod_bd _ m0
/-- steps that lead to the same number do so always -/
theorem nxB_all {m : Int} {xs : List Int} {l s : Int} (e : nxB m xs l = nxB m xs (l + s)) (c : Int) : nxB m xs (l + c * s) = nxB m xs l := by
  rw [nxB_eq, nxB_eq] at e ⊢
  have h := Int.emod_eq_emod_iff_emod_sub_eq_zero.mp e
  have hd := Int.dvd_of_emod_eq_zero h
  refine Int.emod_eq_emod_iff_emod_sub_eq_zero.mpr (Int.emod_eq_zero_of_dvd ?_)
  have := Int.dvd_trans hd (Int.dvd_mul_left (-c) _)
  rw [show -c * (l * xs.getD (xs.length - 1) 0 + xs.getD 1 0 - l * xs.getD 0 0 - ((l + s) * xs.getD (xs.length - 1) 0 + xs.getD 1 0 - (l + s) * xs.getD 0 0)) = (l + c * s) * xs.getD (xs.length - 1) 0 + xs.getD 1 0 - (l + c * s) * xs.getD 0 0 - (l * xs.getD (xs.length - 1) 0 + xs.getD 1 0 - l * xs.getD 0 0) by grind] at this
  exact this
theorem fitR_in {m : Int} {xs : List Int} {k : Nat} {l s : Int} (F : FitR m xs k (some (l, s))) (c : Int) : FitU m xs k (l + c * s) := (F.2.2.2.2 _).mpr ⟨c, by grind⟩
theorem fitR_l {m : Int} {xs : List Int} {k : Nat} {l s : Int} (F : FitR m xs k (some (l, s))) : FitU m xs k l := (F.2.2.2.2 _).mpr (by rw [Int.sub_self]; exact Int.dvd_zero s)
/-- what fits more conditions is a part of what fits fewer -/
theorem fit_sub {m : Int} {xs ys : List Int} {j k : Nat} {l s l' s' : Int} (F : FitR m xs k (some (l, s))) (F' : FitR m ys j (some (l', s'))) (h : ∀ t, FitU m xs k t → FitU m ys j t) : s' ∣ s ∧ s' ∣ l - l' := by
  have e1 := (F'.2.2.2.2 l).mp (h _ (fitR_l F))
  have e2 := (F'.2.2.2.2 (l + 1 * s)).mp (h _ (fitR_in F 1))
  refine ⟨?_, e1⟩
  have := Int.dvd_sub e2 e1
  rw [show l + 1 * s - l' - (l - l') = s by omega] at this
  exact this
/-- behind: the same number by all -/
theorem fit_behind {m : Int} {xs : List Int} {l s : Int} (m0 : 0 < m) (rg : Rng m xs) (h : 2 ≤ xs.length) (F : FitR m xs (xs.length - 2) (some (l, s))) (e : nxB m xs l = nxB m xs (l + s)) : FitR m (xs ++ [nxB m xs l]) (xs.length - 1) (some (l, s)) := by
  have nr := nxB_rng m0 xs l
  refine ⟨F.1, F.2.1, F.2.2.1, F.2.2.2.1, fun t => ?_⟩
  rw [fit_snoc m0 rg nr.1 nr.2 h, F.2.2.2.2 t]
  constructor
  · exact fun q => q.1
  · intro q
    refine ⟨q, ?_⟩
    obtain ⟨c, hc⟩ := q
    rw [show t = l + c * s by grind]
    exact nxB_all e c
theorem fit_other {m : Int} {xs : List Int} {l s y : Int} (m0 : 0 < m) (rg : Rng m xs) (h : 2 ≤ xs.length) (F : FitR m xs (xs.length - 2) (some (l, s))) (e : nxB m xs l = nxB m xs (l + s)) (y0 : 0 ≤ y) (y1 : y < m) (ny : y ≠ nxB m xs l) : FitR m (xs ++ [y]) (xs.length - 1) none := fun t ht => by
  obtain ⟨a, b⟩ := (fit_snoc m0 rg y0 y1 h).mp ht
  obtain ⟨c, hc⟩ := (F.2.2.2.2 t).mp a
  rw [show t = l + c * s by grind, nxB_all e c] at b
  exact ny b.symm
theorem fit_fewer {m : Int} {xs : List Int} {l s l' s' : Int} (m0 : 0 < m) (rg : Rng m xs) (h : 2 ≤ xs.length) (F : FitR m xs (xs.length - 2) (some (l, s))) (e : nxB m xs l ≠ nxB m xs (l + s)) (F' : FitR m (xs ++ [nxB m xs l]) (xs.length - 1) (some (l', s'))) : s < s' ∧ s' % s = 0 := by
  have nr := nxB_rng m0 xs l
  obtain ⟨d, _⟩ := fit_sub F' F (fun t ht => ((fit_snoc m0 rg nr.1 nr.2 h).mp ht).1)
  have le : s ≤ s' := Int.le_of_dvd F'.1 d
  refine ⟨?_, Int.emod_eq_zero_of_dvd d⟩
  by_cases z : s < s'
  · exact z
  · have es : s' = s := by omega
    subst es
    have hl : FitU m (xs ++ [nxB m xs l]) (xs.length - 1) l := (fit_snoc m0 rg nr.1 nr.2 h).mpr ⟨fitR_l F, rfl⟩
    have h1 := (F'.2.2.2.2 l).mp hl
    have h2 : FitU m (xs ++ [nxB m xs l]) (xs.length - 1) (l + s') := (F'.2.2.2.2 _).mpr (by
      rw [show l + s' - l' = l - l' + s' by omega]
      exact Int.dvd_add h1 (Int.dvd_refl s'))
    exact absurd ((fit_snoc m0 rg nr.1 nr.2 h).mp h2).2.symm e
/-- the row by a rule that fits -/
theorem row_of_fit {m : Int} {xs : List Int} {t : Int} (m0 : 0 < m) (rg : Rng m xs) (h : 2 ≤ xs.length) (F : FitU m xs (xs.length - 2) t) : orb (stp t (plusOf m xs t) m) xs.length (xs.getD 0 0) = xs := by
  have st := (step_iff m0 rg t (xs.length - 2)).mpr F
  have it : ∀ i, i < xs.length → itr (stp t (plusOf m xs t) m) i (xs.getD 0 0) = xs.getD i 0 := by
    intro i
    induction i with
    | zero => exact fun _ => rfl
    | succ i ih =>
      intro hi
      show stp t (plusOf m xs t) m (itr (stp t (plusOf m xs t) m) i (xs.getD 0 0)) = _
      rw [ih (by omega)]
      exact st i (by omega)
  refine List.ext_getElem? fun i => ?_
  by_cases hi : i < xs.length
  · unfold orb
    rw [List.getElem?_map, List.getElem?_range hi]
    show some (itr (stp t (plusOf m xs t) m) i (xs.getD 0 0)) = _
    rw [it i hi, List.getElem?_eq_getElem hi, get_D (List.getElem?_eq_getElem hi)]
  · rw [List.getElem?_eq_none (by rw [orb_len]; omega), List.getElem?_eq_none (by omega)]
theorem one_mono {m : Int} {xs : List Int} {j k : Nat} {l s : Int} (m0 : 0 < m) (hj : j ≤ k) (O : One m xs j) (F : FitR m xs k (some (l, s))) : s = m := by
  obtain ⟨l', F'⟩ := O
  obtain ⟨d, _⟩ := fit_sub F F' (fun t ht => fitU_mono ht hj)
  exact Int.dvd_antisymm (by have := F.1; omega) (by omega) F.2.1 d
def pRulesR (K : PySem.W.Frag) : V → V → V → Hp → VK → XK → Prop := fun a b c H Q _ => ∃ (r f : Addr) (xs : List Int) (m l s : Int), a = .ref r ∧ b = .int m ∧ c = .ref f ∧ H r = some (.tup (xs.map V.int)) ∧ H f = some (.tup [.int l, .int s]) ∧ 1 ≤ m ∧ m ≤ 1000000000000 ∧ Rng m xs ∧ 2 ≤ xs.length ∧ xs.length ≤ 1000 ∧ FitR m xs (xs.length - 2) (some (l, s)) ∧ ∀ H', Same H H' → Q (.bl true) H'
def pBehR (K : PySem.W.Frag) : V → V → V → V → Hp → VK → XK → Prop := fun e a b c H Q _ => ∃ (d r f : Addr) (n : Nat) (xs : List Int) (m l s : Int), e = .ref d ∧ a = .ref r ∧ b = .int m ∧ c = .ref f ∧ Seed H d n ∧ n + 10 ≤ 100000000 ∧ H r = some (.tup (xs.map V.int)) ∧ H f = some (.tup [.int l, .int s]) ∧ 1 ≤ m ∧ m ≤ 1000000000000 ∧ Rng m xs ∧ 2 ≤ xs.length ∧ xs.length ≤ 900 ∧ FitR m xs (xs.length - 2) (some (l, s)) ∧ ∀ H', But d H H' → Q (.bl true) H'
end Tw

/-! Bounds that fit: max of a tuple, defs with a table of their own, the bounds' list. -/
namespace Tw
open PySem PySem.Spec PyProof.Rows L2
section
variable {prog : Program} {w : World} {A : Around} {E : Value → Shared → Prop} {s : Shared} {l : Addr} {its : List Value} {ns : List Int} {Q : Value → Shared → Prop}
theorem max_rawT (hh : A.handled = none) (hl : s.heap.IsTuple l its.toArray) (hi : IntsAre its ns) (hne : 0 < ns.length)
    (h : ∀ h' tk M t', (∀ b o, s.heap.get? b = some o → h'.get? b = some o) → M ∈ ns → (∀ a, a ∈ ns → a ≤ M) → Q (.int M t') { s with heap := h', toks := tk }) : wpAny (model prog w) A (call (.builtin "max") [.ref l]) Q E s := by
  obtain ⟨xs, e⟩ := hi.allInts.items
  have hn : numsOf (intItems xs).toList = ns := by rw [← e]; exact hi.numsOf
  rw [nums_intItems] at hn
  subst hn
  rw [e] at hl
  have hlt : l < s.heap.objs.size := by obtain ⟨_, e, _⟩ := hl; exact Heap.lt_size e
  have hsz : 0 < xs.size := by simpa using hne
  have sz : (intItems xs).size = xs.size := by simp [intItems]
  refine call_max_walk (wpAny_pyIter_tuple hl ⟨_, _, _, _, _, _, _, rfl, Walks.tuple (A := A.in1) hh _ l (Nat.ne_of_lt hlt) (intItems xs), ⟨⟨_, Heap.get?_push_size _ rfl, rfl, rfl⟩, hl.push _⟩, fun b hb => ?_, by rw [sz]; exact hsz, CmpOf.ints_gt (numAt xs) (fun _ _ => intItems_at), fun v h' tk hP hk => ?_⟩)
  · show b < (s.heap.push _).objs.size
    rw [Heap.size_push]
    rcases List.mem_cons.mp hb with rfl | hb
    · exact Nat.lt_succ_self _
    · rcases List.mem_cons.mp hb with rfl | hb
      · exact Nat.lt_succ_of_lt hlt
      · cases hb
  · rw [sz] at hP
    obtain ⟨t, rfl⟩ := intItems_at hP
    obtain ⟨g1, g2⟩ := argBest_gt (numAt xs) (xs.size - 1)
    refine h h' tk _ t (fun b o e => hk b o (fun hm => absurd (Heap.lt_size e) ((List.mem_singleton.mp hm) ▸ Nat.lt_irrefl _)) (Heap.get?_push_of_some _ e)) ?_ fun a ha => ?_
    · rw [numAt_eq]; exact PySem.getD_mem (by rw [List.length_map, Array.length_toList]; omega)
    · obtain ⟨j, hj, rfl⟩ := mem_getD ha
      rw [List.length_map, Array.length_toList] at hj
      rw [← numAt_eq]
      exact g2 j (by omega)
end
def rMaxT (K : PySem.W.Frag) : List V → Hp → VK → Prop := fun vs H Q => ∃ (a : Addr) (ns : List Int), vs = [V.ref a] ∧ SqT K H a (ns.map V.int) ∧ 0 < ns.length ∧ ∀ M, M ∈ ns → (∀ x, x ∈ ns → x ≤ M) → Q (.int M) H
theorem cr_maxT {X : Cx} (hc : X.calm = true) : CallR X (.builtin "max") (rMaxT X.K) := by
  intro pins s σ H vs us Q I r h
  obtain ⟨a, ns, rfl, hs, hne, q⟩ := h
  obtain ⟨its, rv, hl, _⟩ := I.tuple hs
  rw [Vals.ref1 r]
  exact max_rawT (I.ok.hd hc) hl (intsAre_of rv) hne fun h' tk M t' hk h1 h2 => ⟨.int _, H, I.kept hk, ⟨_, rfl⟩, q M h1 h2⟩
/-! ### a def of two arguments with a table of its own -/
section
variable {P : Program} {w : World} {K : PySem.W.Frag} {mg : Str → Option Value} {base : Heap} {x : Str} {st : Stmt} {N : List Str} {k : Nat} {c : Addr}
theorem TopC.ok2 {a b : Str} {p : V → V → Hp → VK → XK → Prop} (D : TopC K mg x st [a, b] c) (Sc : FnScope N [a, b] (defScope st))
    (hbody : ∀ (f : Addr) (A : Around) (outer : List Env) (s : Shared) (H : Hp) (v1 v2 : V) (Q : VK) (E : XK), Room k (A.deeper (envOfC x (defScope st) s.heap.objs.size f (.ref c))) → p v1 v2 H Q E →
      ∃ t, PSs (cxOf CX0 P w K mg base N x (defScope st) f (.ref c) A outer s H E).nox (defBody st) t ∧ t { nx := fun _ H' => Q .non H', rt := Q } (start N [v1, v2]) H) : Has P w K mg base CX0 (k + 1) x [a, b] (sp2 p) := by
  obtain ⟨f, oc, od, kV, doc, pm, an, ct, osl, lk, hcd, kp, g, bb⟩ := D
  refine ⟨f, _, fn_of lk hcd Sc (fun vs H Q E h => by obtain ⟨_, _, rfl, _⟩ := h; rfl) fun A outer s H vs Q E hr h => ?_, g, kp, bb, oc, od, osl, lk⟩
  obtain ⟨v1, v2, rfl, h⟩ := h
  obtain ⟨t, h, q⟩ := hbody f A outer s H v1 v2 Q E hr h
  exact ⟨t, h.nox, q⟩
end
/-! ### the bounds that fit -/
def FB (xs : List Int) (b : Int) : Prop := Rng b xs ∧ ¬ FitR b xs (xs.length - 2) none
noncomputable def fbB (xs : List Int) (b : Int) : Bool := @decide (FB xs b) (Classical.propDecidable _)
theorem fbB_t {xs : List Int} {b : Int} (h : FB xs b) : fbB xs b = true := by unfold fbB; simp [h]
theorem fbB_f {xs : List Int} {b : Int} (h : ¬ FB xs b) : fbB xs b = false := by unfold fbB; simp [h]
theorem fbB_iff {xs : List Int} {b : Int} : fbB xs b = true ↔ FB xs b := by unfold fbB; simp
/-- of the bounds from lo + 1 on the first n -/
noncomputable def bfL (xs : List Int) (lo : Int) (n : Nat) : List Int := ((List.range n).map fun (i : Nat) => lo + 1 + (i : Int)).filter (fbB xs)
theorem bfL_len (xs : List Int) (lo : Int) (n : Nat) : (bfL xs lo n).length ≤ n := by
  unfold bfL
  refine Nat.le_trans (List.length_filter_le _ _) ?_
  rw [List.length_map, List.length_range]
  exact Nat.le_refl _
theorem bfL_succ (xs : List Int) (lo : Int) (n : Nat) : bfL xs lo (n + 1) = bfL xs lo n ++ (if fbB xs (lo + 1 + (n : Int)) = true then [lo + 1 + (n : Int)] else []) := by
  unfold bfL
  rw [List.range_succ, List.map_append, List.filter_append]
  congr 1
  simp only [List.map_cons, List.map_nil, List.filter_cons, List.filter_nil]
theorem bfL_none {xs : List Int} {lo : Int} : ∀ n : Nat, (∀ i : Nat, i < n → ¬ FB xs (lo + 1 + (i : Int))) → bfL xs lo n = []
  | 0, _ => rfl
  | n + 1, h => by
    rw [bfL_succ, bfL_none n (fun i hi => h i (by omega)), fbB_f (h n (by omega))]
    rfl
theorem bfL_add (xs : List Int) (lo : Int) (a b : Nat) : bfL xs lo (a + b) = bfL xs lo a ++ bfL xs (lo + (a : Int)) b := by
  induction b with
  | zero => simp [bfL]
  | succ b ih =>
    rw [← Nat.add_assoc, bfL_succ, ih, bfL_succ, List.append_assoc]
    rw [show lo + 1 + ((a + b : Nat) : Int) = lo + (a : Int) + 1 + (b : Int) by omega]
/-- below the greatest number none fits -/
theorem bfL_from {xs : List Int} {M : Int} (hM : M ∈ xs) (m0 : 0 ≤ M) (n : Nat) : bfL xs 0 n = bfL xs M ((n : Int) - M).toNat := by
  have low : ∀ i : Nat, i < M.toNat → ¬ FB xs (0 + 1 + (i : Int)) := fun i hi h => by
    have := (h.1 M hM).2
    omega
  by_cases c : (n : Int) ≤ M
  · rw [show ((n : Int) - M).toNat = 0 by omega, bfL_none n (fun i hi => low i (by omega))]
    rfl
  · have e : n = M.toNat + ((n : Int) - M).toNat := by omega
    rw [show bfL xs 0 n = bfL xs 0 (M.toNat + ((n : Int) - M).toNat) by rw [← e], bfL_add, bfL_none _ low, List.nil_append]
    congr 1
    omega
def NonNeg (xs : List Int) : Prop := ∀ x ∈ xs, 0 ≤ x
def pFsome (K : PySem.W.Frag) (Pt : Addr) : V → V → Hp → VK → XK → Prop := fun a b H Q _ => ∃ (r : Addr) (xs : List Int) (m : Int), a = .ref r ∧ b = .int m ∧ SqT K H r (xs.map V.int) ∧ 1 ≤ m ∧ m ≤ 1000000000000 ∧ xs.length ≤ 1000 ∧ GxR.TabG H Pt ∧
  ∀ H', Grow Pt Pt H H' → Q (.bl (fbB xs m)) H'
def pBtf (K : PySem.W.Frag) (Pt : Addr) : V → V → Hp → VK → XK → Prop := fun a b H Q _ => ∃ (r : Addr) (xs : List Int) (m : Int), a = .ref r ∧ b = .int m ∧ SqT K H r (xs.map V.int) ∧ 0 ≤ m ∧ m ≤ 2000 ∧ xs.length ≤ 1000 ∧ GxR.TabG H Pt ∧
  ∀ H' q, Grow Pt Pt H H' → H q = none → H' q = some (.tup ((bfL xs 0 m.toNat).map V.int)) → Q (.ref q) H'
def pTrialB (K : PySem.W.Frag) : V → V → Hp → VK → XK → Prop := fun a b H Q _ => ∃ (r : Addr) (xs : List Int) (m : Int), a = .ref r ∧ b = .int m ∧ SqT K H r (xs.map V.int) ∧ 1 ≤ m ∧ m ≤ 200 ∧ Rng m xs ∧ 2 ≤ xs.length ∧ xs.length ≤ 1000 ∧ ∀ H', Same H H' → Q (.bl (fbB xs m)) H'
def pDueB (K : PySem.W.Frag) : V → V → Hp → VK → XK → Prop := fun a b H Q _ => ∃ (r : Addr) (xs : List Int) (m : Int), a = .ref r ∧ b = .int m ∧ SqT K H r (xs.map V.int) ∧ 0 ≤ m ∧ m ≤ 2000 ∧ NonNeg xs ∧ (∀ x ∈ xs, x ≤ 1000000000000) ∧ 2 ≤ xs.length ∧ xs.length ≤ 1000 ∧
  ∀ H' l, Same H H' → H l = none → H' l = some (.lst ((bfL xs 0 m.toNat).map V.int)) → Q (.ref l) H'
def pRightB (K : PySem.W.Frag) (Pt : Addr) : V → V → Hp → VK → XK → Prop := fun a b H Q _ => ∃ (r : Addr) (xs : List Int) (m : Int), a = .ref r ∧ b = .int m ∧ SqT K H r (xs.map V.int) ∧ 0 ≤ m ∧ m ≤ 2000 ∧ NonNeg xs ∧ (∀ x ∈ xs, x ≤ 1000000000000) ∧ 2 ≤ xs.length ∧ xs.length ≤ 1000 ∧ GxR.TabG H Pt ∧ ∀ H', Grow Pt Pt H H' → Q (.bl true) H'
theorem _root_.L2.Same.grow {P : Addr} {H H' : Hp} (s : Same H H') (t : GxR.TabG H P) : Grow P P H H' := ⟨tabG_same t s, tabG_same t s, fun _ _ _ _ e => s _ _ e⟩
theorem tabG_mut {P L : Addr} {H : Hp} {o : HO} (t : GxR.TabG H P) (ne : L ≠ P) : GxR.TabG (upd H L o) P := by
  obtain ⟨ps, e, k⟩ := t
  exact ⟨ps, by rw [upd_ne (Ne.symm ne)]; exact e, k⟩
theorem Seed.ne_tab {H : Hp} {d P : Addr} {n : Nat} (h : Seed H d n) (t : GxR.TabG H P) : P ≠ d := by
  obtain ⟨r, f, k, c, a1, _⟩ := h
  obtain ⟨ps, e, _⟩ := t
  intro z
  rw [z, a1] at e
  cases e
theorem tabG_butS {P d : Addr} {H H' : Hp} {n : Nat} (t : GxR.TabG H P) (D : Seed H d n) (b : But d H H') : GxR.TabG H' P := by
  have ne := D.ne_tab t
  obtain ⟨ps, e, k⟩ := t
  exact ⟨ps, b _ _ ne e, k⟩
theorem Grow.seed {P d : Addr} {H H' : Hp} {n : Nat} (g : Grow P P H H') (t : GxR.TabG H P) (D : Seed H d n) : Seed H' d n := by
  have ne := D.ne_tab t
  obtain ⟨r, f, k, c, a1, a2⟩ := D
  exact ⟨r, f, k, c, g.keep _ _ (Ne.symm ne) (Ne.symm ne) a1, a2⟩
theorem sqT_kept {K : PySem.W.Frag} {H H' : Hp} {r : Addr} {xs : List V} (h : SqT K H r xs) (k : ∀ o, (∀ ps, o ≠ .tbl ps) → H r = some o → H' r = some o) : SqT K H' r xs := by
  rcases h with (h | ⟨o, h⟩) | h
  · exact .inl (.inl (k _ (fun ps z => by cases z) h))
  · exact .inl (.inr ⟨o, k _ (fun ps z => by cases z) h⟩)
  · exact .inr h
theorem Grow.sqT {K : PySem.W.Frag} {P r : Addr} {H H' : Hp} {xs : List V} (g : Grow P P H H') (t : GxR.TabG H P) (h : SqT K H r xs) : SqT K H' r xs := sqT_kept h fun o n e => g.get t t e n
/-- t + u: a tuple of these items -/
def rCatX (K : PySem.W.Frag) : R2 := fun x y H Q => ∃ (a b : Addr) (xs ys : List V), x = .ref a ∧ y = .ref b ∧ SqT K H a xs ∧ SqT K H b ys ∧ xs.length + ys.length ≤ sizeLine ∧ ∀ H' p, Same H H' → SqT K H' p (xs ++ ys) → Q (.ref p) H'
theorem op_catX {X : Cx} : OpR X (binaryOp .Add) (rCatX X.K) := by
  intro pins s σ H x y v u Q I rx ry h
  obtain ⟨a, b, xs, ys, rfl, rfl, ha, hb, hz, q⟩ := h
  refine op_catA pins s σ H _ _ v u Q I rx ry ⟨a, b, xs, ys, rfl, rfl, ha, hb, hz, fun e => ?_, fun _ e => ?_, fun _ _ p np => ?_⟩
  · exact q H b (fun _ _ z => z) (by rw [e]; exact hb)
  · exact q H a (fun _ _ z => z) (by rw [e, List.append_nil]; exact ha)
  · exact q _ p (same_new np) (SqT.of upd_same)
theorem Grow.tup {P r : Addr} {H H' : Hp} {zs : List V} (g : Grow P P H H') (t : GxR.TabG H P) (e : H r = some (.tup zs)) : H' r = some (.tup zs) := g.get t t e (fun ps z => by cases z)
end Tw

/-! Calls by keywords alone; refusals made by hand: held with their text, or with their number. -/
namespace Tw
open PySem PySem.Spec PyProof.Rows L2
/-! ### f(k = v, ..) -/
/-- how a def of plain parameters binds keywords alone -/
def KwOf (K : PySem.W.Frag) (mg : Str → Option Value) (x : Str) (ps ks : List Str) (g : List Value → List Value → List Value) (gV : List V → List V → List V) : Prop := ∃ (f : Addr) (fd : FuncData), mg x = some (.ref f) ∧ Lk K f fd ∧ KBinds K fd ps ks g gV
theorem Top.kw {K : PySem.W.Frag} {mg : Str → Option Value} {x : Str} {st : Stmt} {ps ks : List Str} {g : List Value → List Value → List Value} {gV : List V → List V → List V} (D : Top K mg x st ps)
    (hb : ∀ (kV doc pm : Value) (an : Option Addr) (cdv ct : Value) (us ws : List Value), (g us ws).length = ps.length → bindArgs (PySem.W.fnOf x x (defArgs st) (defBody st) (defScope st) .none kV doc pm an cdv ct) ⟨us, ks.zip ws⟩ = pure (ps.zip (g us ws)))
    (rel : ∀ {vs : List V} {us : List Value} {zs : List V} {ws : List Value}, Vals vs us → Vals zs ws → Vals (gV vs zs) (g us ws)) : KwOf K mg x ps ks g gV := by
  obtain ⟨f, fd, F, m, _⟩ := D
  have lk := lk_of F
  obtain ⟨oc, od, kV, doc, pm, an, cdv, ct, osl, rfl, _, _⟩ := F.ex
  exact ⟨f, _, m, lk, ⟨fun s us ws _ hl => .of_eq (hb kV doc pm an cdv ct us ws hl), rel⟩⟩
/-! the keywords' order turned -/
def g1 {α : Type} : List α → List α → List α
  | [], [a] => [a]
  | _, _ => []
def g2 {α : Type} : List α → List α → List α
  | [], [a, b] => [b, a]
  | _, _ => []
def g3 {α : Type} : List α → List α → List α
  | [], [a, b, c] => [c, b, a]
  | _, _ => []
theorem g1_inv {α : Type} {us ws : List α} (h : (g1 us ws).length = 1) : ∃ a, us = [] ∧ ws = [a] := by
  unfold g1 at h
  split at h
  · exact ⟨_, rfl, rfl⟩
  · cases h
theorem g2_inv {α : Type} {us ws : List α} (h : (g2 us ws).length = 2) : ∃ a b, us = [] ∧ ws = [a, b] := by
  unfold g2 at h
  split at h
  · exact ⟨_, _, rfl, rfl⟩
  · cases h
theorem g3_inv {α : Type} {us ws : List α} (h : (g3 us ws).length = 3) : ∃ a b c, us = [] ∧ ws = [a, b, c] := by
  unfold g3 at h
  split at h
  · exact ⟨_, _, _, rfl, rfl⟩
  · cases h
theorem g1_rel {vs : List V} {us : List Value} {zs : List V} {ws : List Value} (a : Vals vs us) (b : Vals zs ws) : Vals (g1 vs zs) (g1 us ws) := by
  cases a with
  | nil =>
    cases b with
    | nil => exact .nil
    | cons r1 t1 =>
      cases t1 with
      | nil => exact .cons r1 .nil
      | cons r2 t2 => exact .nil
  | cons r t => exact .nil
theorem g2_rel {vs : List V} {us : List Value} {zs : List V} {ws : List Value} (a : Vals vs us) (b : Vals zs ws) : Vals (g2 vs zs) (g2 us ws) := by
  cases a with
  | nil =>
    cases b with
    | nil => exact .nil
    | cons r1 t1 =>
      cases t1 with
      | nil => exact .nil
      | cons r2 t2 =>
        cases t2 with
        | nil => exact .cons r2 (.cons r1 .nil)
        | cons r3 t3 => exact .nil
  | cons r t => exact .nil
theorem g3_rel {vs : List V} {us : List Value} {zs : List V} {ws : List Value} (a : Vals vs us) (b : Vals zs ws) : Vals (g3 vs zs) (g3 us ws) := by
  cases a with
  | nil =>
    cases b with
    | nil => exact .nil
    | cons r1 t1 =>
      cases t1 with
      | nil => exact .nil
      | cons r2 t2 =>
        cases t2 with
        | nil => exact .nil
        | cons r3 t3 =>
          cases t3 with
          | nil => exact .cons r3 (.cons r2 (.cons r1 .nil))
          | cons r4 t4 => exact .nil
  | cons r t => exact .nil
/-! ### text * n -/
def rMulS : R2 := fun x y H Q => ∃ (a : Str) (i : Int), x = .str a ∧ y = .int i ∧ MulOk a i ∧ Q (.str (Txt.mul a i)) H
theorem op_mulS {X : Cx} : OpR X (binaryOp .Mult) rMulS := by
  intro pins s σ H x y u v Q I r1 r2 h
  obtain ⟨a, i, rfl, rfl, ok, q⟩ := h
  obtain ⟨t1, rfl⟩ := r1
  obtain ⟨t2, rfl⟩ := r2
  exact PySem.SB.mul ok fun t' k => ⟨.str (Txt.mul a i), H, I.tok _, ⟨t', rfl⟩, q⟩
section
variable {X : Cx} {CX : CXT} {k : Nat} {ps ks : List Str} {sp : Sp} {E : XK} {x : Str} {p pos : Pos} {kws : List Keyword} {tk : TA} {g : List Value → List Value → List Value} {gV : List V → List V → List V}
theorem pe_kw (h : Has X.prog X.w X.K X.mg X.base CX k x ps sp) (b : KwOf X.K X.mg x ps ks g gV) (hr : Room k X.A) (hx : Passes CX X E) (hkw : PK X kws tk) (hg : Gl X x := by rfl) (hall : (backToKw pos (keywordEach kws X.env)).all (·.1.isSome) = true := by rfl)
    (hks : (backToKw pos (keywordEach kws X.env)).filterMap (·.1) = ks := by rfl) (hdb : (x == ("__debug__" : Str)) = false := by decide)
    (hpl : ((backTo pos (starEach [] X.env)).any (·.1) || (backToKw pos (keywordEach kws X.env)).any (·.1.isNone)) = false := by rfl) :
    PE X (.Call (.Name x p) [] kws pos) (tCallK sp gV E tNil tk) := by
  obtain ⟨f, fd, F, m, kp, _, lk⟩ := h
  obtain ⟨f', fd', m', lk', kb⟩ := b
  obtain rfl : f = f' := by
    have z := m.symm.trans m'
    cases z
    rfl
  obtain rfl := lk.eq lk'
  refine ⟨fun pins s σ H Q I q => wpAny_Call_Name_kw (ld_glob I hg m ?_ hdb)⟩
  refine PySem.W.callWith_KW0 (h₀ := X.base) I.ok.mod.kin kp hall (thn (hkw.run pos pins s σ H _ I q) fun ws s2 y => ?_) hpl
  obtain ⟨zs, H2, I2, rz, q2⟩ := y
  refine ⟨I2.kIn, ?_⟩
  rw [hks]
  exact run_fnk F hr kb hx I2 .nil rz q2
end
/-! ### X(text), held with its text -/
def exm (a C t : Addr) : HO := .ext fun h => ∃ (oe : Obj) (vs : Array Value), h.get? a = some oe ∧ (oe.cls = .ref C ∧ oe.dict = none) ∧ oe.data = .fields vs ∧ vs[0]? = some (.ref t)
theorem exm_ok {P : Program} {w : World} {H : Hp} {h : Heap} {a C t : Addr} {oe : Obj} {vs : Array Value} (e : h.get? a = some oe) (c : oe.cls = .ref C ∧ oe.dict = none) (d : oe.data = .fields vs) (z : vs[0]? = some (.ref t)) : ObjOk P w H h a (exm a C t) :=
  ⟨⟨oe, vs, e, c, d, z⟩, ⟨oe, e⟩, fun _ _ y k => by
    obtain ⟨o, v, q, r⟩ := y
    exact ⟨o, v, k o q, r⟩⟩
theorem exm_at {P : Program} {w : World} {H : Hp} {h : Heap} {a C t : Addr} (hok : HOk P w H h) (e : H a = some (exm a C t)) : ∃ (oe : Obj) (vs : Array Value), h.get? a = some oe ∧ (oe.cls = .ref C ∧ oe.dict = none) ∧ oe.data = .fields vs ∧ vs[0]? = some (.ref t) := by
  have x : ObjOk P w H h a (.ext fun h => ∃ (oe : Obj) (vs : Array Value), h.get? a = some oe ∧ (oe.cls = .ref C ∧ oe.dict = none) ∧ oe.data = .fields vs ∧ vs[0]? = some (.ref t)) := hok a _ e
  exact x.1
theorem pe_exm {X : Cx} {C : Addr} {bmB : List Value} {B newId initId : String} {x : Str} {e : Expr} {ta : TE} {p pos : Pos} (F : ExcBaseFacts B newId initId bmB) (q : PySem.W.excIn X.K C bmB newId = true) (gC : X.mg x = some (.ref C)) (kC : PySem.W.keepIn X.K (.ref C) = true)
    (he : PE X e ta) (hg : Gl X x := by rfl) (hs : starEach [e] X.env = (false, eval e X.env) :: starEach [] X.env := by rfl) (hdb : (x == ("__debug__" : Str)) = false := by decide) :
    PE X (.Call (.Name x p) [e] [] pos) (fun σ H Q => ta σ H fun v H1 => ∀ a t, H1 a = none → H1 t = none → a ≠ t → Q (.ref a) (upd (upd H1 t (.tup [v])) a (exm a C t))) := by
  refine ⟨fun pins s σ H Q I y => wpAny_Call_Name_kw (ld_glob I hg gC ?_ hdb)⟩
  refine PySem.W.callWith_K (h₀ := X.base) I.ok.mod.kin kC ?_ hs (by rfl)
  rw [hs]
  show wpAny _ _ (spliced ((false, eval e X.env) :: backTo pos (starEach [] X.env))) _ _ s
  refine Calls.spliced_cons (thn (he.run pins s σ H _ I y) fun u s1 z => ?_)
  obtain ⟨v, H1, I1, r1, q1⟩ := z
  refine Calls.spliced_nil ⟨I1.kIn, ?_⟩
  show wpAny _ _ (call (.ref C) [u]) _ _ _
  obtain ⟨bm, N, nm, qn, bs, hdct, sn, sub, ab, col, dd, k0, k1, k2, k3, k5, mN, hC, hN, hni, T⟩ := exc_obj I1.kIn q
  refine wpAny_call_exc_subT F T hC hN hni (fun h' a hm => ?_) (by show 1 ≤ sizeLine; decide)
  obtain ⟨t, ht, tn, tt⟩ := hm.there
  have at_ : a ≠ t := fun z => by
    rw [z, tt] at ht
    cases ht
  have na : H1 a = none := I1.hok.gone hm.new
  have nt : H1 t = none := I1.hok.gone tn
  obtain ⟨G, g1, g2⟩ := restrict h' fun b => decide (b ≠ a)
  have gk : ∀ b o, b ≠ a → h'.get? b = some o → G.get? b = some o := fun b o hb e => (g1 b (decide_eq_true hb)).trans e
  have ga : G.get? a = none := g2 a (decide_eq_false fun z => z rfl)
  have I2 : Inv X pins σ (upd H1 t (.tup [v])) { s1 with heap := G, toks := s1.toks } := I1.laidN (fun b o e => gk b o (fun z => by rw [z, hm.new] at e; cases e) (hm.keeps b o e)) tn nt ⟨by show 1 ≤ sizeLine; decide, [u], .cons r1 .nil, ⟨_, gk _ _ (Ne.symm at_) tt, rfl, _, rfl⟩⟩
  have na2 : (upd H1 t (.tup [v])) a = none := by rw [upd_ne at_]; exact na
  have I3 : Inv X pins σ (upd (upd H1 t (.tup [v])) a (exm a C t)) { s1 with heap := h', toks := s1.toks } := I2.laidN (h' := h') (t' := s1.toks) (fun b o e => by
    by_cases z : b = a
    · rw [z] at e
      rw [show G.get? a = none from ga] at e
      cases e
    · exact (g1 b (decide_eq_true z)).symm.trans e) ga na2 (exm_ok ht ⟨rfl, rfl⟩ rfl rfl)
  exact ⟨.ref a, _, I3, rfl, q1 a t na nt at_⟩
/-! ### str(e) -/
def rStrX (K : PySem.W.Frag) : List V → Hp → VK → Prop := fun xs H Q => ∃ (a C t : Addr) (m : Str), xs = [.ref a] ∧ H a = some (exm a C t) ∧ H t = some (.tup [.str m]) ∧ PySem.W.findIn K (.ref C) "__str__" = some (some (.builtin "BaseException.__str__")) ∧ PySem.W.subIn K (.ref C) (.type "BaseException") = some true ∧ Q (.str m) H
theorem call_strX {X : Cx} {k : Nat} (hr : Room k X.A) : CallR X (.type "str") (rStrX X.K) := by
  intro pins s σ H xs us Q I r h
  obtain ⟨a, C, t, m, rfl, ea, et, hs, hB, q⟩ := h
  obtain ⟨u, rfl, ru⟩ := r.one
  cases (show u = Value.ref a from ru)
  obtain ⟨oe, vs, ho, hc, hd, h0⟩ := exm_at I.hok ea
  obtain ⟨_, its, rv, tp⟩ := (show ObjOk X.prog X.w H s.heap t (.tup [.str m]) from I.hok t _ et)
  obtain ⟨w, rfl, rw'⟩ := rv.one
  obtain ⟨tk, rfl⟩ := rw'
  have tup : s.heap.TupAt t [.str m tk] := by
    obtain ⟨o, e1, e2, n, e3⟩ := tp
    exact ⟨o, n, e1, e2, e3⟩
  exact PySem.P.str_of_C_one (by have := hr.units; omega) ⟨I.kIn, oe, vs, ho, hc.1, hd, h0⟩ tup hs hB ⟨.str m, H, I.tok _, ⟨tk, rfl⟩, q⟩
/-! ### X(number) by its own initialiser, held -/
def tMkV (C : Addr) (sp : Sp) (ta : TA) : TE := fun σ H Q => ta σ H fun vs H1 => vs.length ≤ 1000 ∧ ∀ a, H1 a = none → sp (.ref a :: vs) (upd H1 a (exo a C none)) (fun v H2 => v = .non ∧ Q (.ref a) H2) (fun _ _ _ => False)
theorem pe_oexV {X : Cx} {CX : CXT} {x : Str} {C fI : Addr} {k : Nat} {fd : FuncData} {ps : List Str} {sp : Sp} {e : Expr} {es : List Expr} {ta : TA} {p pos : Pos} (T : OexC X.K C) (iC : PySem.W.findIn X.K (.ref C) "__init__" = some (some (.ref fI))) (tI : PySem.W.typeIn X.K (.ref fI) = some (.type "function"))
    (F1 : FnOk X.prog X.w X.K X.mg X.base CX k fI fd ps sp) (hr : Room (k + 1) X.A) (hb : Binds X.K fd ps []) (hx : Passes CX X (fun _ _ _ => False)) (hm : X.mg x = some (.ref C)) (ha : PA X (e :: es) ta) (hg : Gl X x := by rfl)
    (hdb : (x == ("__debug__" : Str)) = false := by decide) (he : starEach (e :: es) X.env = (false, eval e X.env) :: starEach es X.env := by rfl) (hpl : (backTo pos (starEach es X.env)).any (·.1) = false := by rfl) :
    PE X (.Call (.Name x p) (e :: es) [] pos) (tMkV C sp ta) := by
  refine ⟨fun pins s σ H Q I h => wpAny_Call_Name_kw (ld_glob I hg hm ?_ hdb)⟩
  obtain ⟨nm, q, N, bs, bm, sn, sub, ab, col, dd, k0, k1, k2, k3, k5, hC, hbm⟩ := T.cls
  refine PySem.W.callWith_K (h₀ := X.base) I.ok.mod.kin T.kC (thn (ha.run pos pins s σ H _ I h) fun us s1 y => ?_) he hpl
  obtain ⟨vs, H1, I1, r1, hz, q1⟩ := y
  refine ⟨I1.kIn, ?_⟩
  show wpAny _ _ (call (.ref C) us) _ _ _
  obtain ⟨hp, gs, dr, tk, os⟩ := s1
  have le1 : hp.objs.size ≤ hp.objs.size + 1 := Nat.le_succ _
  have hn : H1 (hp.objs.size + 1) = none := I1.hok.fresh le1
  have hq := q1 (hp.objs.size + 1) hn
  have hget : ((hp.push (PySem.W.kdv_tup us)).push (PySem.HandSPX.excO C hp.objs.size)).get? (hp.objs.size + 1) = some (PySem.HandSPX.excO C hp.objs.size) := by heap_get
  have I2 := I1.laid (t' := tk) (a := hp.objs.size + 1) (o := exo (hp.objs.size + 1) C none) (h' := (hp.push (PySem.W.kdv_tup us)).push (PySem.HandSPX.excO C hp.objs.size)) (fun b o e => Heap.get?_push_of_some _ (Heap.get?_push_of_some _ e)) le1 (exo_ok hget)
  have r2 : Vals (V.ref (hp.objs.size + 1) :: vs) (Value.ref (hp.objs.size + 1) :: us) := .cons rfl r1
  have hl : (Value.ref (hp.objs.size + 1) :: us ++ []).length = ps.length := by
    have z := r2.length
    rw [F1.len _ _ _ _ hq] at z
    rw [List.append_nil]
    exact z.symm
  have b2 := hb ⟨(hp.push (PySem.W.kdv_tup us)).push (PySem.HandSPX.excO C hp.objs.size), gs, dr, tk, os⟩ (Value.ref (hp.objs.size + 1) :: us) I2.kIn hl
  rw [List.append_nil] at b2
  have hus : us.length ≤ sizeLine := by
    rw [← Paired.length r1]
    exact sz (by omega)
  refine wpAny_call (PySem.HandSPX.call_own F.excBase_ValueError (fun Y => PySem.HandSPX.refsVE_contains Y bm hbm) (I1.kIn _ _ hC) (PySem.W.looks_findIn I1.kIn iC) (fun self => PySem.W.bind_fn I1.kIn self tI) hus
    (codeAny_mono (F1.run _ X.stack _ _ ⟨Value.ref (hp.objs.size + 1) :: us, []⟩ _ _ _ (fun _ _ _ => False) (hr.make C us []) (I2.env0.make C us []) b2 r2 hq) fun r s' y => ?_))
  cases r with
  | error er => exact hx pins σ _ _ er s' I2 y
  | ok fl =>
    cases fl with
    | ret u =>
      obtain ⟨v, H', I3, rv, ev, q3⟩ := I2.after y
      subst ev
      exact ⟨rv, .ref (hp.objs.size + 1), H', I3, rfl, q3⟩
    | next => exact y.elim
    | brk => exact y.elim
    | cont => exact y.elim
/-! ### a held refusal: its class asked, its field read -/
def Held (H : Hp) (a D : Addr) : Prop := (∃ t, H a = some (exm a D t)) ∨ ∃ (d : Addr) (fs : List (Str × V)), H a = some (exo a D (some d)) ∧ H d = some (exd d fs)
theorem held_inst {X : Cx} {pins : List (Addr × Obj)} {σ : L2.St} {H : Hp} {s : Shared} {a D : Addr} (I : Inv X pins σ H s) (h : Held H a D) : ∃ oe od, PySem.W.InstAt s.heap a oe D od := by
  rcases h with ⟨t, e⟩ | ⟨d, fs, e, ed⟩
  · obtain ⟨oe, vs, ho, hc, hd, _⟩ := exm_at I.hok e
    exact ⟨oe, none, ho, hc.1, by unfold PySem.W.notCls; rw [hd] <;> rfl, by rw [hc.2]; trivial⟩
  · obtain ⟨t1, ho⟩ := exo_at I.hok e
    obtain ⟨mA, hns, _⟩ := exd_at I.hok ed
    obtain ⟨od, hd, _⟩ := lookIn_ns hns
    exact ⟨_, some od, ho, rfl, rfl, hd⟩
def rIsH (K : PySem.W.Frag) : List V → Hp → VK → Prop := fun xs H Q => ∃ (a D : Addr) (c : V) (u : Value) (b : Bool), xs = [.ref a, c] ∧ ClsV c u ∧ Held H a D ∧ XcC K D ∧ PySem.W.kitOne K (.ref D) u = some b ∧ Q (.bl b) H
theorem call_isH {X : Cx} : CallR X (.builtin "isinstance") (rIsH X.K) := by
  intro pins s σ H xs us Q I r h
  obtain ⟨a, D, c, u, b, rfl, k, hh, T, e, q⟩ := h
  obtain ⟨u1, u2, rfl, r1, r2⟩ := vals2 r
  cases (show u1 = Value.ref a from r1)
  have e2 := k.eq r2
  subst e2
  obtain ⟨oe, od, J⟩ := held_inst I hh
  exact PySem.W.kia_one (PySem.W.kitx_exc T.hc T.hg T.hk T.hs T.ha T.hn T.ht T.hm) I.kIn J e (fun z => nomatch z) fun tk => ⟨.bl b, H, I.tok tk, rfl, q⟩
def tHv (K : PySem.W.Frag) (f : Str) (te : TE) : TE := fun σ H Q => te σ H fun x H1 => ∃ (a C dd : Addr) (fs : List (Str × V)) (v : V), x = .ref a ∧ H1 a = some (exo a C (some dd)) ∧ XcC K C ∧ PySem.W.findIn K (.ref C) f = some none ∧ H1 dd = some (exd dd fs) ∧ fs.lookup f = some v ∧ Q v H1
theorem pe_hv {X : Cx} {e : Expr} {te : TE} {pos : Pos} {n : Str} (he : PE X e te) (hb : attributeBase e n X.env (eval e X.env) = eval e X.env := by rfl) : PE X (.Attribute e n pos) (tHv X.K n te) := by
  refine ⟨fun pins s σ H Q I h => attr_of hb (thn (he.run pins s σ H _ I h) fun u s1 hh => ?_)⟩
  obtain ⟨x, H1, I1, rx, a, C, dd, fs, v, ex, ea, T, hno, ed, l, q⟩ := hh
  subst ex
  obtain rfl : u = Value.ref a := rx
  obtain ⟨t1, ha⟩ := exo_at I1.hok ea
  obtain ⟨mA, hns, hr⟩ := exd_at I1.hok ed
  obtain ⟨od, ho, hl⟩ := lookIn_ns hns
  obtain ⟨u, hu, ru⟩ := RelO.some_of (v := v) (o := mA n) (by rw [← l]; exact hr n)
  have J : PySem.W.InstAt s1.heap a _ C (some od) := ⟨ha, rfl, rfl, ho⟩
  exact HandSPX.exc_get I1.kIn J T.hg T.hk T.hs (PySem.W.findObj_own T.hd hno rfl (by rw [hl, hu])) (handed_of ru) ⟨v, H1, I1.tok _, ru, q⟩
end Tw

/-! Calls by names within a try; five names turned about. -/
namespace Tw
open PySem PySem.Spec PyProof.Rows L2
def tCallKS (sp : Sp) (gV : List V → List V → List V) (E : L2.St → XK) (tk : TA) : TE := fun σ H Q => tk σ H fun zs H1 => sp (gV [] zs) H1 Q (E σ)
section
variable {X : Cx} {CX : CXT} {k : Nat} {ps ks : List Str} {sp : Sp} {E : L2.St → XK} {x : Str} {p pos : Pos} {kws : List Keyword} {tk : TA} {g : List Value → List Value → List Value} {gV : List V → List V → List V}
theorem pe_kwS (h : Has X.prog X.w X.K X.mg X.base CX k x ps sp) (b : KwOf X.K X.mg x ps ks g gV) (hr : Room k X.A) (hx : ∀ σ, PassesAt CX X σ (E σ)) (hkw : PK X kws tk) (hg : Gl X x := by rfl) (hall : (backToKw pos (keywordEach kws X.env)).all (·.1.isSome) = true := by rfl)
    (hks : (backToKw pos (keywordEach kws X.env)).filterMap (·.1) = ks := by rfl) (hdb : (x == ("__debug__" : Str)) = false := by decide)
    (hpl : ((backTo pos (starEach [] X.env)).any (·.1) || (backToKw pos (keywordEach kws X.env)).any (·.1.isNone)) = false := by rfl) :
    PE X (.Call (.Name x p) [] kws pos) (tCallKS sp gV E tk) := by
  obtain ⟨f, fd, F, m, kp, _, lk⟩ := h
  obtain ⟨f', fd', m', lk', kb⟩ := b
  have ef : f = f' := by
    have z := m.symm.trans m'
    cases z
    rfl
  subst ef
  have efd := lk.eq lk'
  subst efd
  refine ⟨fun pins s σ H Q I q => wpAny_Call_Name_kw (ld_glob I hg m ?_ hdb)⟩
  refine PySem.W.callWith_KW0 (h₀ := X.base) I.ok.mod.kin kp hall (thn (hkw.run pos pins s σ H _ I q) fun ws t y => ?_) hpl
  obtain ⟨zs, H2, J, rz, q2⟩ := y
  refine ⟨J.kIn, ?_⟩
  rw [hks]
  have rr := kb.rel (.nil) rz
  have len : (g [] ws).length = ps.length := by rw [← rr.length]; exact F.len _ _ _ _ q2
  refine wpAny_call (codeAny_mono (F.run X.A X.stack t H2 ⟨[], ks.zip ws⟩ (g [] ws) (gV [] zs) Q (E σ) hr J.env0 (kb.to t [] ws J.kIn len) rr q2) fun res t2 hres => ?_)
  cases res with
  | error e => exact hx σ pins H2 t e t2 J hres
  | ok fl =>
    cases fl with
    | ret u => exact J.after hres
    | next => exact hres.elim
    | brk => exact hres.elim
    | cont => exact hres.elim
end
end Tw

/-! Rules of any bound drawn of a deck; renamings. -/
namespace Tw
open PySem PySem.Spec PyProof.Rows L2
section
variable {P : Program} {w : World} {K : PySem.W.Frag} {mg : Str → Option Value} {base : Heap} {x : Str} {st : Stmt} {N : List Str} {k : Nat}
def sp5 (p : V → V → V → V → V → Hp → VK → XK → Prop) : Sp := fun vs H Q E => ∃ a b c d e, vs = [a, b, c, d, e] ∧ p a b c d e H Q E
theorem Top.ok5 {a b c d e : Str} {p : V → V → V → V → V → Hp → VK → XK → Prop} (D : Top K mg x st [a, b, c, d, e]) (S : FnScope N [a, b, c, d, e] (defScope st))
    (hbody : ∀ (f : Addr) (cdv : Value) (A : Around) (outer : List Env) (s : Shared) (H : Hp) (v1 v2 v3 v4 v5 : V) (Q : VK) (E : XK), Room k (A.deeper (envOfC x (defScope st) s.heap.objs.size f cdv)) → p v1 v2 v3 v4 v5 H Q E →
      ∃ t, PSs (cxOf CX0 P w K mg base N x (defScope st) f cdv A outer s H E).nox (defBody st) t ∧ t { nx := fun _ H' => Q .non H', rt := Q } (start N [v1, v2, v3, v4, v5]) H) : Has P w K mg base CX0 (k + 1) x [a, b, c, d, e] (sp5 p) :=
  D.ok S (fun vs H Q E h => by obtain ⟨_, _, _, _, _, rfl, _⟩ := h; rfl) (fun f cdv A outer s H vs Q E hr h => by obtain ⟨v1, v2, v3, v4, v5, rfl, h⟩ := h; exact hbody f cdv A outer s H v1 v2 v3 v4 v5 Q E hr h)
theorem Top.ok5X {a b c d e : Str} {p : V → V → V → V → V → Hp → VK → XK → Prop} (D : Top K mg x st [a, b, c, d, e]) (S : FnScope N [a, b, c, d, e] (defScope st))
    (hbody : ∀ (f : Addr) (cdv : Value) (A : Around) (outer : List Env) (s : Shared) (H : Hp) (v1 v2 v3 v4 v5 : V) (Q : VK) (E : XK), Room k (A.deeper (envOfC x (defScope st) s.heap.objs.size f cdv)) → p v1 v2 v3 v4 v5 H Q E →
      ∃ t, PSs (cxOf (L2.CX P w) P w K mg base N x (defScope st) f cdv A outer s H E) (defBody st) t ∧ t { nx := fun _ H' => Q .non H', rt := Q } (start N [v1, v2, v3, v4, v5]) H) : Has P w K mg base (L2.CX P w) (k + 1) x [a, b, c, d, e] (sp5 p) :=
  D.okX S (fun vs H Q E h => by obtain ⟨_, _, _, _, _, rfl, _⟩ := h; rfl) (fun f cdv A outer s H vs Q E hr h => by obtain ⟨v1, v2, v3, v4, v5, rfl, h⟩ := h; exact hbody f cdv A outer s H v1 v2 v3 v4 v5 Q E hr h)
end
/-- the bits of a number from 1 on -/
theorem bits_pow {x : Int} (h : 1 ≤ x) : ∃ k : Nat, Builtin.Int.intBits x = k ∧ 0 < k ∧ (2 : Int) ^ (k - 1) ≤ x := by
  refine ⟨x.natAbs.log2 + 1, ?_, by omega, ?_⟩
  · unfold Builtin.Int.intBits
    rw [if_neg (by simp; omega)]
  · have h1 : 2 ^ x.natAbs.log2 ≤ x.natAbs := Nat.log2_self_le (by omega)
    have e1 : ((2 ^ x.natAbs.log2 : Nat) : Int) = (2 : Int) ^ x.natAbs.log2 := by norm_cast
    rw [show x.natAbs.log2 + 1 - 1 = x.natAbs.log2 by omega]
    omega
theorem bits_le {x : Int} (h : 1 ≤ x) (h2 : x ≤ 1000000000000) : Builtin.Int.intBits x ≤ 40 := by
  refine lt_bits ?_
  have e : (2 : Nat) ^ 40 = 1099511627776 := by decide
  omega
def pRuleC : V → V → Hp → VK → XK → Prop := fun a b H Q _ => ∃ (d : Addr) (n : Nat) (m : Int), a = .ref d ∧ b = .int m ∧ 60 ≤ m ∧ m ≤ 1000000000000 ∧ DeckB H d n ∧ n + 20 ≤ 100000000 ∧
  ∀ (H' : Hp) (r : Addr) (t p b : Int), But d H H' → DeckB H' d (n + 20) → H r = none → H' r = some (.tup [.int t, .int p, .int b]) → Rule t p b → b ≤ m → Q (.ref r) H'
/-! ### renamings -/
/-- a pair (u, v) that leads one rule to the other -/
def Leads (t1 p1 t2 p2 b u v : Int) : Prop := Int.gcd u b = 1 ∧ (u * t1) % b = (t2 * u) % b ∧ (u * p1 + v) % b = (t2 * v + p2) % b
instance {t1 p1 t2 p2 b u v : Int} : Decidable (Leads t1 p1 t2 p2 b u v) := by unfold Leads; infer_instance
def ldE (t1 p1 t2 p2 b u v n : Int) : Int := t2 * ((u * n + v) % b) + p2 - u * ((t1 * n + p1) % b) - v
theorem ldE_mod (t1 p1 t2 p2 b u v n : Int) : ldE t1 p1 t2 p2 b u v n % b = ((t2 * u - u * t1) * n + (t2 * v + p2 - (u * p1 + v))) % b := by
  have d1 := Int.mul_ediv_add_emod (u * n + v) b
  have d2 := Int.mul_ediv_add_emod (t1 * n + p1) b
  unfold ldE
  generalize (u * n + v) / b = q1 at *
  generalize (t1 * n + p1) / b = q2 at *
  generalize (u * n + v) % b = r1 at *
  generalize (t1 * n + p1) % b = r2 at *
  have e : t2 * r1 + p2 - u * r2 - v = ((t2 * u - u * t1) * n + (t2 * v + p2 - (u * p1 + v))) + b * (u * q2 - t2 * q1) := by
    have h1 : r1 = u * n + v - b * q1 := by omega
    have h2 : r2 = t1 * n + p1 - b * q2 := by omega
    subst h1 h2
    grind
  rw [e, Int.add_mul_emod_self_left]
theorem sub_mod {a c b : Int} : (a - c) % b = 0 ↔ c % b = a % b := by
  rw [eq_comm (a := c % b), Int.emod_eq_emod_iff_emod_sub_eq_zero]
theorem leads_all {t1 p1 t2 p2 b u v : Int} (h1 : (u * t1) % b = (t2 * u) % b) (h2 : (u * p1 + v) % b = (t2 * v + p2) % b) (n : Int) : ldE t1 p1 t2 p2 b u v n % b = 0 := by
  rw [ldE_mod]
  obtain ⟨c, hc⟩ := Int.dvd_of_emod_eq_zero (sub_mod.mpr h1)
  obtain ⟨d, hd⟩ := Int.dvd_of_emod_eq_zero (sub_mod.mpr h2)
  rw [hc, hd, show b * c * n + b * d = b * (c * n + d) by grind]
  exact Int.mul_emod_right b _
theorem leads_of {t1 p1 t2 p2 b u v : Int} (b0 : 0 < b) (h : ∀ n : Nat, n < b.toNat → ldE t1 p1 t2 p2 b u v n % b = 0) : (u * t1) % b = (t2 * u) % b ∧ (u * p1 + v) % b = (t2 * v + p2) % b := by
  have z0 := h 0 (by omega)
  rw [ldE_mod, show ((0 : Nat) : Int) = 0 from rfl, Int.mul_zero, Int.zero_add] at z0
  refine ⟨?_, sub_mod.mp z0⟩
  by_cases e : b = 1
  · subst e; rw [Int.emod_one, Int.emod_one]
  · have z1 := h 1 (by omega)
    rw [ldE_mod, show ((1 : Nat) : Int) = 1 from rfl, Int.mul_one] at z1
    refine sub_mod.mp ?_
    obtain ⟨c, hc⟩ := Int.dvd_of_emod_eq_zero z1
    obtain ⟨d, hd⟩ := Int.dvd_of_emod_eq_zero z0
    rw [show t2 * u - u * t1 = b * (c - d) by grind]
    exact Int.mul_emod_right b _
theorem leads_led {t p b u v : Int} (g : Int.gcd u b = 1) : Leads t p t ((u * p + v - t * v) % b) b u v := by
  refine ⟨g, by rw [Int.mul_comm], ?_⟩
  rw [Int.add_emod_emod]
  congr 1
  omega
theorem gcd_last {b : Int} (h : 1 ≤ b) : Int.gcd (b - 1) b = 1 := by
  have d : Int.gcd (b - 1) b ∣ 1 := by
    have a := Int.gcd_dvd_left (a := b - 1) (b := b)
    have c := Int.gcd_dvd_right (a := b - 1) (b := b)
    have e : ((Int.gcd (b - 1) b : Nat) : Int) ∣ 1 := by
      have := Int.dvd_sub c a
      rw [show b - (b - 1) = 1 by omega] at this
      exact this
    exact Int.natCast_dvd_natCast.mp (by simpa using e)
  exact Nat.dvd_one.mp d
/-- a drawn renaming and the rule that it leads to -/
def pLed (K : PySem.W.Frag) : V → V → Hp → VK → XK → Prop := fun a b H Q _ => ∃ (d r : Addr) (n : Nat) (t p m : Int), a = .ref d ∧ b = .ref r ∧ SqT K H r [.int t, .int p, .int m] ∧ Rule t p m ∧ DeckB H d n ∧ n + 2 ≤ 100000000 ∧
  ∀ (H' : Hp) (l r2 pr : Addr) (u v : Int), But d H H' → DeckB H' d (n + 2) → H l = none → H' l = some (.lst [.ref r2, .ref pr]) → H' r2 = some (.tup [.int t, .int ((u * p + v - t * v) % m), .int m]) → H' pr = some (.tup [.int u, .int v]) → 0 ≤ u → u < m → 0 ≤ v → v < m → Int.gcd u m = 1 → Q (.ref l) H'
def pLeads (K : PySem.W.Frag) : V → V → V → Hp → VK → XK → Prop := fun a b c H Q _ => ∃ (r1 r2 pr : Addr) (t1 p1 m t2 p2 m2 u v : Int), a = .ref r1 ∧ b = .ref r2 ∧ c = .ref pr ∧ SqT K H r1 [.int t1, .int p1, .int m] ∧ SqT K H r2 [.int t2, .int p2, .int m2] ∧ SqT K H pr [.int u, .int v] ∧ Rule t1 p1 m ∧ m ≤ 2000 ∧ 0 ≤ t2 ∧ t2 ≤ 2000 ∧ 0 ≤ p2 ∧ p2 ≤ 2000 ∧ 0 ≤ u ∧ u ≤ 2000 ∧ 0 ≤ v ∧ v ≤ 2000 ∧
  Q (.bl (decide (Leads t1 p1 t2 p2 m u v))) H
def pRshown (K : PySem.W.Frag) : V → V → V → Hp → VK → XK → Prop := fun a b c H Q _ => ∃ (r1 r2 pr : Addr) (t1 p1 m t2 p2 m2 u v : Int), a = .ref r1 ∧ b = .ref r2 ∧ c = .ref pr ∧ SqT K H r1 [.int t1, .int p1, .int m] ∧ SqT K H r2 [.int t2, .int p2, .int m2] ∧ SqT K H pr [.int u, .int v] ∧ Rule t1 p1 m ∧ (m2 = m → Rule t2 p2 m) ∧ 0 ≤ u ∧ u < m ∧ 0 ≤ v ∧ v < m ∧
  ∀ H', Same H H' → Q (.bl (decide (m2 = m ∧ Leads t1 p1 t2 p2 m u v))) H'
/-! ### pairs in a list -/
def Prs (H : Hp) (m : Int) (as : List Addr) : Prop := ∀ a ∈ as, ∃ x y : Int, H a = some (.tup [.int x, .int y]) ∧ 0 ≤ x ∧ x < m ∧ 0 ≤ y ∧ y < m
theorem Prs.same {H H' : Hp} {m : Int} {as : List Addr} (h : Prs H m as) (s : Same H H') : Prs H' m as := fun a ha => by
  obtain ⟨x, y, e, z⟩ := h a ha
  exact ⟨x, y, s _ _ e, z⟩
theorem Prs.but {H H' : Hp} {d : Addr} {n : Nat} {m : Int} {as : List Addr} (h : Prs H m as) (D : DeckB H d n) (b : But d H H') : Prs H' m as := fun a ha => by
  obtain ⟨x, y, e, z⟩ := h a ha
  exact ⟨x, y, b _ _ (D.ne_tup e) e, z⟩
theorem Prs.new {H : Hp} {m x y : Int} {as : List Addr} {a : Addr} (h : Prs H m as) (na : H a = none) (x0 : 0 ≤ x) (x1 : x < m) (y0 : 0 ≤ y) (y1 : y < m) : Prs (upd H a (.tup [.int x, .int y])) m (as ++ [a]) := fun b hb => by
  rcases List.mem_append.mp hb with hb | hb
  · exact (h.same (same_new na)) b hb
  · rw [List.mem_singleton.mp hb]
    exact ⟨x, y, upd_same, x0, x1, y0, y1⟩
def PrL (H : Hp) (L : Addr) (m : Int) : Prop := ∃ as : List Addr, H L = some (.lst (as.map V.ref)) ∧ as.length ≤ 20 ∧ Prs H m as
theorem PrL.same {H H' : Hp} {L : Addr} {m : Int} (h : PrL H L m) (s : Same H H') : PrL H' L m := by
  obtain ⟨as, e, l, q⟩ := h
  exact ⟨as, s _ _ e, l, q.same s⟩
theorem PrL.ne {H : Hp} {L d : Addr} {n : Nat} {as : List Addr} (h : H L = some (.lst (as.map V.ref))) (D : DeckB H d n) : L ≠ d := fun z => by
  obtain ⟨g, x, k, e1, _⟩ := D
  rw [z, e1] at h
  cases as with
  | nil => cases h
  | cons _ _ => cases h
theorem PrL.but {H H' : Hp} {L d : Addr} {n : Nat} {m : Int} (h : PrL H L m) (D : DeckB H d n) (b : But d H H') : PrL H' L m := by
  obtain ⟨as, e, l, q⟩ := h
  exact ⟨as, b _ _ (PrL.ne e D) e, l, q.but D b⟩
def pPairs : V → V → V → Hp → VK → XK → Prop := fun a b c H Q _ => ∃ (d pr : Addr) (n : Nat) (m u v : Int), a = .ref d ∧ b = .int m ∧ c = .ref pr ∧ H pr = some (.tup [.int u, .int v]) ∧ 1 ≤ m ∧ m ≤ 2000 ∧ 0 ≤ u ∧ u < m ∧ 0 ≤ v ∧ v < m ∧ DeckB H d n ∧ n + 4 ≤ 100000000 ∧
  ∀ (H' : Hp) (l : Addr), But d H H' → DeckB H' d (n + 4) → H l = none → PrL H' l m → Q (.ref l) H'
def pOnce (K : PySem.W.Frag) : V → V → V → Hp → VK → XK → Prop := fun a b c H Q _ => ∃ (d r pr : Addr) (n : Nat) (t p m u v : Int), a = .ref d ∧ b = .ref r ∧ c = .ref pr ∧ SqT K H r [.int t, .int p, .int m] ∧ Rule t p m ∧ m ≤ 2000 ∧ SqT K H pr [.int u, .int v] ∧ 0 ≤ u ∧ u < m ∧ 0 ≤ v ∧ v < m ∧ DeckB H d n ∧ n + 3 ≤ 100000000 ∧
  ∀ (H' : Hp) (l : Addr) (t2 p2 : Int), But d H H' → DeckB H' d (n + 3) → H' l = some (.tup [.int t2, .int p2, .int m]) → Rule t2 p2 m → Q (.ref l) H'
/-- an item of a list of objects -/
theorem at_refs {as : List Addr} {v : Int} (h0 : 0 ≤ v) (h1 : v < as.length) : ∃ x, x ∈ as ∧ atI (as.map V.ref) v = some (.ref x) := by
  obtain ⟨j, rfl⟩ := Int.eq_ofNat_of_zero_le h0
  have jl : j < as.length := by omega
  refine ⟨as[j], List.getElem_mem jl, atI_nat ?_⟩
  rw [List.getElem?_map, List.getElem?_eq_getElem jl]
  rfl
theorem rget {as : List Addr} {i : Nat} {x : V} (h : (as.map V.ref)[i]? = some x) : ∃ a, a ∈ as ∧ x = .ref a := by
  rw [List.getElem?_map] at h
  cases e : as[i]? with
  | none => rw [e] at h; cases h
  | some a =>
    rw [e] at h
    cases h
    exact ⟨a, List.mem_of_getElem? e, rfl⟩
end Tw

/-! Comprehensions of two clauses; two rows woven. -/
namespace Tw
open PySem PySem.Spec PyProof.Rows L2
theorem ps_setLc2 {X : Cx} {elt t0 i0 t1 i1 : Expr} {f0 f1 : List Expr} {scope : Scope} {own : List (Str × Nat)} {pos : Pos} {wi : TI} {g0 g1 : TG} {tt0 tt1 : TT} {te : TE} {wi1 : TI} {i : Nat} {y : Str} {py spos : Pos} (vs1 : List Nat) (hc : X.calm = true) (hN : X.N.Nodup) (hy : X.N[i]? = some y) (hyl : X.env.scope.names.lookup y = some .local)
    (hsw : swapsWith (.ListComp elt [⟨t0, i0, f0, 0⟩, ⟨t1, i1, f1, 0⟩] scope pos) (some (.Name y py)) spos.line X.env = pure true) (hi : PI X t0 i0 wi) (ok : BlkOk X.N X.env.scope scope own)
    (hv1 : ∀ i ∈ vs1, i ∈ own.map (·.2))
    (p0 : ∀ (s3 : Shared) (H3 : Hp) (C : Addr) (cl : List (Str × Addr)) (fp : List Addr), PG (X.blk s3 H3 scope (compEnvC scope cl C X.env) fp) t0 g0) (q0 : ∀ (s3 : Shared) (H3 : Hp) (C : Addr) (cl : List (Str × Addr)) (fp : List Addr), PTs (X.blk s3 H3 scope (compEnvC scope cl C X.env) fp) f0 tt0) (r1 : ∀ (s3 : Shared) (H3 : Hp) (C : Addr) (cl : List (Str × Addr)) (fp : List Addr), PI (X.blk s3 H3 scope (compEnvC scope cl C X.env) fp) t1 i1 wi1) (k1 : ∀ (s3 : Shared) (H3 : Hp) (C : Addr) (cl : List (Str × Addr)) (fp : List Addr), ∀ x, foldedSetIterable i1 (compEnvC scope cl C X.env) x = pure x) (p1 : ∀ (s3 : Shared) (H3 : Hp) (C : Addr) (cl : List (Str × Addr)) (fp : List Addr), PG (X.blk s3 H3 scope (compEnvC scope cl C X.env) fp) t1 g1) (q1 : ∀ (s3 : Shared) (H3 : Hp) (C : Addr) (cl : List (Str × Addr)) (fp : List Addr), PTs (X.blk s3 H3 scope (compEnvC scope cl C X.env) fp) f1 tt1) (pe : ∀ (s3 : Shared) (H3 : Hp) (C : Addr) (cl : List (Str × Addr)) (fp : List Addr), PE (X.blk s3 H3 scope (compEnvC scope cl C X.env) fp) elt te)
    (hs : ∀ x, foldedSetIterable i0 X.env x = pure x := by intro _; rfl) : PS X (.Assign [.Name y py] (.ListComp elt [⟨t0, i0, f0, 0⟩, ⟨t1, i1, f1, 0⟩] scope pos) spos) (tAsg (tLcN wi (fun D => bodyM g0 tt0 (own.map (·.2)) wi1 (bodyE g1 tt1 te vs1 D)) (own.map (·.2))) (gName i)) :=
  ps_setLcN hc hN hy hyl hsw hi ok (fun s3 H3 C cl fp D => loop_mid (d := 0) rfl rfl hc rfl hv1 (p0 s3 H3 C cl fp) (q0 s3 H3 C cl fp) (r1 s3 H3 C cl fp) (k1 s3 H3 C cl fp) (loop_last (d := 1) rfl rfl hc rfl (p1 s3 H3 C cl fp) (q1 s3 H3 C cl fp) (pe s3 H3 C cl fp))) hs
/-- two rows woven -/
def wvA (f g : Int → Int) (x y : Int) (k : Nat) : Int := if k % 2 = 0 then itr f (k / 2) x else itr g (k / 2) y
def wv (f g : Int → Int) (x y : Int) (n : Nat) : List Int := (List.range n).map (wvA f g x y)
theorem wv_len (f g : Int → Int) (x y : Int) (n : Nat) : (wv f g x y n).length = n := by unfold wv; rw [List.length_map, List.length_range]
theorem wv_succ (f g : Int → Int) (x y : Int) (n : Nat) : wv f g x y (n + 1) = wv f g x y n ++ [wvA f g x y n] := by
  unfold wv
  rw [List.range_succ, List.map_append]
  rfl
theorem wvA_even (f g : Int → Int) (x y : Int) (i : Nat) : wvA f g x y (2 * i) = itr f i x := by
  unfold wvA
  rw [if_pos (by omega), show 2 * i / 2 = i by omega]
theorem wvA_odd (f g : Int → Int) (x y : Int) (i : Nat) : wvA f g x y (2 * i + 1) = itr g i y := by
  unfold wvA
  rw [if_neg (by omega), show (2 * i + 1) / 2 = i by omega]
theorem wv_two (f g : Int → Int) (x y : Int) (i : Nat) : wv f g x y (2 * (i + 1)) = wv f g x y (2 * i) ++ [itr f i x] ++ [itr g i y] := by
  rw [show 2 * (i + 1) = 2 * i + 1 + 1 by omega, wv_succ, wv_succ, wvA_even, wvA_odd]
theorem wv_take (f g : Int → Int) (x y : Int) {n m : Nat} (h : n ≤ m) : (wv f g x y m).take n = wv f g x y n := by
  unfold wv
  rw [← List.map_take, List.take_range, Nat.min_eq_left h]
theorem orb_gt (f : Int → Int) {n i : Nat} (x : Int) (h : i < n) : (orb f n x)[i]? = some (itr f i x) := by
  unfold orb
  rw [List.getElem?_map, List.getElem?_range h]
  rfl
theorem orb_gD (f : Int → Int) {n i : Nat} (x : Int) (h : i < n) : (orb f n x).getD i 0 = itr f i x := by
  rw [List.getD_eq_getElem?_getD, orb_gt f x h]
  rfl
def pWoven (K : PySem.W.Frag) (CN : Addr) : V → V → V → V → V → Hp → VK → XK → Prop := fun a b c d e H Q E => ∃ (r1 r2 : Addr) (t1 p1 m1 x t2 p2 m2 y n : Int), a = .ref r1 ∧ b = .int x ∧ c = .ref r2 ∧ d = .int y ∧ e = .int n ∧ SqT K H r1 [.int t1, .int p1, .int m1] ∧ Rule t1 p1 m1 ∧ SqT K H r2 [.int t2, .int p2, .int m2] ∧ Rule t2 p2 m2 ∧ 0 ≤ n ∧ n ≤ 1000 ∧
  ((0 ≤ x ∧ x < m1) → (0 ≤ y ∧ y < m2) → ∀ H' q, Same H H' → H q = none → H' q = some (.tup ((wv (stp t1 p1 m1) (stp t2 p2 m2) x y n.toNat).map V.int)) → Q (.ref q) H') ∧ (¬ (0 ≤ x ∧ x < m1) → Bad CN x H E) ∧ ((0 ≤ x ∧ x < m1) → ¬ (0 ≤ y ∧ y < m2) → ∀ H', Same H H' → Bad CN y H' E)
def pTold24 (K : PySem.W.Frag) (CN : Addr) : V → V → V → V → V → Hp → VK → XK → Prop := fun a b c d e H Q _ => ∃ (r1 r2 : Addr) (t1 p1 m1 x t2 p2 m2 y n : Int), a = .ref r1 ∧ b = .int x ∧ c = .ref r2 ∧ d = .int y ∧ e = .int n ∧ SqT K H r1 [.int t1, .int p1, .int m1] ∧ Rule t1 p1 m1 ∧ SqT K H r2 [.int t2, .int p2, .int m2] ∧ Rule t2 p2 m2 ∧ 0 ≤ n ∧ n ≤ 1000 ∧
  ((0 ≤ x ∧ x < m1) → (0 ≤ y ∧ y < m2) → ∀ H' l q, Same H H' → H' l = some (.lst [.ref q, .non]) → H' q = some (.tup ((wv (stp t1 p1 m1) (stp t2 p2 m2) x y n.toNat).map V.int)) → Q (.ref l) H') ∧
  (¬ ((0 ≤ x ∧ x < m1) ∧ (0 ≤ y ∧ y < m2)) → ∀ H' l xe dd, Same H H' → H' l = some (.lst [.non, .ref xe]) → H' xe = some (exv xe (.ref CN) (some dd)) → H' dd = some (.xd [("number", .int (if 0 ≤ x ∧ x < m1 then y else x))]) → Q (.ref l) H')
end Tw

/-! Slices of tuples with a step. -/
namespace Tw
open PySem PySem.Spec PyProof PyProof.Rows L2
/-- what stands at so many places, from lo on, by steps -/
def stepL {α : Type} (xs : List α) (lo st : Int) (k : Nat) : List α := (List.range k).filterMap fun (m : Nat) => xs[(lo + (m : Int) * st).toNat]?
theorem vals_get {i : Nat} : ∀ {xs : List V} {us : List Value}, Vals xs us → (xs[i]? = none ∧ us[i]? = none) ∨ ∃ x u, xs[i]? = some x ∧ us[i]? = some u ∧ RelV x u := by
  intro xs us r
  cases e : xs[i]? with
  | none =>
    refine .inl ⟨rfl, ?_⟩
    rw [List.getElem?_eq_none_iff] at e ⊢
    rw [← r.length]
    exact e
  | some x =>
    obtain ⟨u, h1, h2⟩ := r.get e
    exact .inr ⟨x, u, rfl, h1, h2⟩
theorem vals_step {xs : List V} {us : List Value} (r : Vals xs us) (g : Nat → Nat) : ∀ l : List Nat, Vals (l.filterMap fun m => xs[g m]?) (l.filterMap fun m => us[g m]?)
  | [] => .nil
  | m :: l => by
    rcases vals_get (i := g m) r with ⟨h1, h2⟩ | ⟨x, u, h1, h2, h3⟩
    · rw [List.filterMap_cons_none (f := fun m => xs[g m]?) h1, List.filterMap_cons_none (f := fun m => us[g m]?) h2]
      exact vals_step r g l
    · rw [List.filterMap_cons_some (f := fun m => xs[g m]?) h1, List.filterMap_cons_some (f := fun m => us[g m]?) h2]
      exact .cons h3 (vals_step r g l)
section
variable {prog : Program} {w : World} {A : Around} {E : Value → Shared → Prop} {s : Shared}
theorem sliceApplied_st {sl : Addr} {vl vu vs : Value} {lo hi : Option Int} {st : Int} {n : Nat} {Q : Int × Int × Nat → Shared → Prop} (hs : s.heap.IsSliceOf sl vl vu vs) (pl : IsPart vl lo) (pu : IsPart vu hi) (ps : IsPart vs (some st)) (h0 : st ≠ 0)
    (h : Q ((Builtin.Slice.sliceAdjust lo hi st (n : Int)).1, st, Builtin.Slice.slicePlaces (Builtin.Slice.sliceAdjust lo hi st (n : Int)).1 (Builtin.Slice.sliceAdjust lo hi st (n : Int)).2 st) s) : wpAny (model prog w) A (Builtin.Slice.sliceApplied (.ref sl) (pure (n : Int))) Q E s := by
  obtain ⟨os, hos, hcs, hds⟩ := id hs
  unfold Builtin.Slice.sliceApplied Builtin.Slice.sliceFields
  refine wpAny_bind (wpAny_bind (wpAny_field hos hds (x := vl) rfl (wpAny_bind (wpAny_field hos hds (x := vu) rfl (wpAny_bind (wpAny_field hos hds (x := vs) rfl (wpAny_pure ?_)))))))
  refine wpAny_bind (HT.slicePart_ ps ?_)
  show wpAny _ _ (if (st == 0) = true then _ else _) _ _ s
  rw [if_neg (by simpa using h0)]
  refine wpAny_bind (HT.slicePart_ pl (wpAny_bind (HT.slicePart_ pu (wpAny_bind (wpAny_pure ?_)))))
  exact wpAny_pure h
theorem getItem_tuple_st {t sl : Addr} {items : Array Value} {vl vu vs : Value} {lo hi : Option Int} {st : Int} {Q : Value → Shared → Prop} (ht : IsTup s.heap t items) (hs : s.heap.IsSliceOf sl vl vu vs) (pl : IsPart vl lo) (pu : IsPart vu hi) (ps : IsPart vs (some st)) (h0 : st ≠ 0) (h1 : st ≠ 1) {i : Int} {k : Nat}
    (ei : i = (Builtin.Slice.sliceAdjust lo hi st (items.size : Int)).1) (ek : k = Builtin.Slice.slicePlaces (Builtin.Slice.sliceAdjust lo hi st (items.size : Int)).1 (Builtin.Slice.sliceAdjust lo hi st (items.size : Int)).2 st)
    (h : Q (.ref s.heap.objs.size) { s with heap := s.heap.push { cls := .type "tuple", data := .seq (stepL items.toList i st k).toArray } })
    (hsz : k ≤ sizeLine) : wpAny (model prog w) A (getItem (.ref t) (.ref sl)) Q E s := by
  have htake : sizeOk (.seq (stepL items.toList i st k).toArray) := by
    show (stepL items.toList i st k).toArray.size ≤ sizeLine
    rw [List.size_toArray]
    unfold stepL
    exact Nat.le_trans (List.length_filterMap_le _ _) (by rw [List.length_range]; exact hsz)
  obtain ⟨os, hos, hcs, hds⟩ := id hs
  have hTs : s.TypeIs (.ref sl) "slice" := ⟨os, hos, hcs⟩
  unfold getItem
  try with_reducible refine wpAny_holding ?_
  first | refine wpAny_bind (wpAny_pure ?_) | skip
  refine wpAny_bind (wpAny_sequenceKey ht.typeIs (by decide) ?_)
  refine wpAny_bind (wpAny_callSpecial?_slot (name := Str.ofString "__getitem__") ht.typeIs PyProof.Rows.slot_tuple_getitem
    (wpAny_call_entry PyProof.Rows.slot_tuple_getitem ht.typeIs entry_tuple_getitem ?_ (args_tuple_getitem _ _)))
  show wpAny _ _ (Builtin.Tuple.tupleItemsOf (.ref t) >>= _) _ _ s
  refine wpAny_bind (tupleItemsOf_ ht ?_)
  refine wpAny_bind (wpAny_typeOf hTs ?_)
  rw [if_pos (by decide)]
  refine wpAny_bind (sliceApplied_st hs pl pu ps h0 ?_)
  rw [← ei] at ek ⊢
  rw [← ek]
  have hno : ¬ ((i == 0 && st == 1 && k == items.size) = true) := by
    intro q
    rw [Bool.and_eq_true, Bool.and_eq_true] at q
    exact h1 (eq_of_beq q.1.2)
  show wpAny _ _ (if (i == 0 && st == 1 && k == items.size) = true then _ else _) _ _ s
  rw [if_neg hno]
  have e : ((List.range k).filterMap fun (m : Nat) => items[(i + (m : Int) * st).toNat]?) = stepL items.toList i st k := by
    unfold stepL
    congr 1
    funext m
    rw [Array.getElem?_toList]
  rw [e]
  first
    | exact wpAny_bind (m := Builtin.Tuple.tupleExact _) (wpAny_newObj_type (wpAny_pure ⟨_, rfl, wpAny_pure h⟩) htake)
    | exact wpAny_bind (m := Builtin.Tuple.tupleExact _) (wpAny_newObj_type (wpAny_bind (wpAny_pure (wpAny_pure ⟨_, rfl, wpAny_pure h⟩))) htake)
    | exact wpAny_bind (wpAny_bind (m := Builtin.Tuple.tupleExact _) (wpAny_newObj_type (wpAny_pure (wpAny_pure ⟨_, rfl, wpAny_pure h⟩)) htake))
    | exact wpAny_bind (wpAny_bind (m := Builtin.Tuple.tupleExact _) (wpAny_newObj_type (wpAny_pure ⟨_, rfl, wpAny_pure h⟩) htake))
end
/-- t[lo::st] -/
def tStT (K : PySem.W.Frag) (te : TE) (tl : TO) (ts : TO) : TE := fun σ H Q => te σ H fun x H1 => tl σ H1 fun l H2 => ts σ H2 fun o H3 => ∃ (a : Addr) (xs : List V) (st i : Int) (k : Nat), x = .ref a ∧ SqT K H3 a xs ∧ o = some st ∧ st ≠ 0 ∧ st ≠ 1 ∧ i = (Builtin.Slice.sliceAdjust l none st (xs.length : Int)).1 ∧ k = Builtin.Slice.slicePlaces (Builtin.Slice.sliceAdjust l none st (xs.length : Int)).1 (Builtin.Slice.sliceAdjust l none st (xs.length : Int)).2 st ∧ k ≤ sizeLine ∧
  ∀ p, H3 p = none → Q (.ref p) (upd H3 p (.tup (stepL xs i st k)))
theorem pe_stT {X : Cx} {e se : Expr} {lo : Option Expr} {te : TE} {tl ts : TO} {p2 pos : Pos} (he : PE X e te) (hl : PO X lo tl) (hst : PO X (some se) ts) : PE X (.Subscript e (.Slice lo none (some se) p2) pos) (tStT X.K te tl ts) := by
  refine ⟨fun pins s σ H Q I h => ?_⟩
  refine Subscript_ (thn (he.run pins s σ H _ I h) fun v s1 ⟨x, H1, I1, r1, q1⟩ => ?_)
  refine wpAny_Slice (thn (hl.run pins s1 σ H1 _ I1 q1) fun vl s2 ⟨l, H2, I2, pl, q2⟩ => ?_)
  refine thn (po_none.run pins s2 σ H2 (fun o H3 => o = none ∧ H3 = H2) I2 ⟨rfl, rfl⟩) fun vu s3 ⟨u, H3, I3, pu, eu, e3⟩ => ?_
  subst eu e3
  refine thn (hst.run pins s3 σ H3 _ I3 q2) fun vs s4 ⟨o, H4, I4, ps, a, xs, st, i, k, ex, hx, eo, n0, n1, ei, ek, hk, q⟩ => ?_
  subst ex eo
  cases r1
  have I5 : Inv X pins σ H4 { s4 with heap := s4.heap.push { cls := .type "slice", data := .fields #[vl, vu, vs] } } := I4.kept (t' := s4.toks) fun b ob q => Heap.get?_push_of_some _ q
  obtain ⟨its, r, ht, hz⟩ := I5.tuple hx
  have hlen : its.toArray.size = xs.length := by rw [List.size_toArray]; exact r.length.symm
  show wpAny (model X.prog X.w) X.A (subscriptTail e (.Slice lo none (some se) p2) (.ref a) (.ref s4.heap.objs.size)) (EP X pins σ Q) X.xe { s4 with heap := s4.heap.push { cls := .type "slice", data := .fields #[vl, vu, vs] } }
  refine tail_any (ops := [.ref a, .ref s4.heap.objs.size]) ht.typeIs (PyProof.Rows.slot_tuple_getitem.lookup) ?_ (by with_unfolding_all rfl)
  refine getItem_tuple_st (i := i) (k := k) ht (Heap.IsSliceOf.new _ vl vu vs) pl pu ps n0 n1 (by rw [hlen]; exact ei) (by rw [hlen]; exact ek) ?_ hk
  refine ⟨.ref _, _, I5.laid (t' := s4.toks) (o := .tup (stepL xs i st k)) (fun b ob q => Heap.get?_push_of_some _ q) (Nat.le_refl _) ?_, rfl, q _ (I5.hok.fresh (Nat.le_refl _))⟩
  refine ⟨?_, _, vals_step r _ _, IsTup.new _ _⟩
  unfold stepL
  exact Nat.le_trans (List.length_filterMap_le _ _) (by rw [List.length_range]; exact hk)
end Tw

/-! The first renaming. -/
namespace Tw
open PySem PySem.Spec PyProof.Rows L2
theorem leads_t {t1 p1 t2 p2 b u v : Int} (a0 : 0 ≤ t1) (a1 : t1 < b) (c0 : 0 ≤ t2) (c1 : t2 < b) (h : Leads t1 p1 t2 p2 b u v) : t1 = t2 := by
  obtain ⟨g, e, _⟩ := h
  have d := Int.dvd_of_emod_eq_zero (Int.emod_eq_emod_iff_emod_sub_eq_zero.mp e)
  rw [show u * t1 - t2 * u = u * (t1 - t2) by grind] at d
  have e4 : b.natAbs ∣ (t1 - t2).natAbs := by
    have h1 := Int.natAbs_dvd_natAbs.mpr d
    rw [Int.natAbs_mul] at h1
    exact Nat.Coprime.dvd_of_dvd_mul_left (show Nat.Coprime b.natAbs u.natAbs from Nat.Coprime.symm g) h1
  have e5 : (t1 - t2).natAbs = 0 := Nat.eq_zero_of_dvd_of_lt e4 (by omega)
  omega
theorem ifBoth {c : Bool} {A B : Prop} (h1 : B → A) (h2 : B) : if c = true then A else B := by
  cases c
  · exact h2
  · exact h1 h2
theorem mod0 {a b m : Int} (h : a % m = b % m) : a % m = 0 ↔ b % m = 0 := by rw [h]
/-- as the next one of a rule of one times fewer -/
theorem leads_bef {t p p2 m u y : Int} (m0 : 0 < m) (g : Int.gcd u m = 1) : Leads t p t p2 m u y ↔ ((t - 1) % m * y + p2 - u * p % m) % m = 0 := by
  have d1 := Int.mul_ediv_add_emod (t - 1) m
  have d2 := Int.mul_ediv_add_emod (u * p) m
  generalize (t - 1) / m = q1 at *
  generalize (t - 1) % m = r1 at *
  generalize (u * p) / m = q2 at *
  generalize hr : (u * p) % m = r2 at *
  have e : r1 * y + p2 - r2 = (t * y + p2 - (u * p + y)) + m * (q2 - q1 * y) := by
    have h1 : r1 = t - 1 - m * q1 := by omega
    have h2 : r2 = u * p - m * q2 := by omega
    rw [h1, h2]
    grind
  rw [e, Int.add_mul_emod_self_left, sub_mod]
  unfold Leads
  constructor
  · rintro ⟨_, _, h⟩; exact h
  · intro h; exact ⟨g, by rw [Int.mul_comm], h⟩
/-- as the seconds of the law -/
theorem leads_sec {t p p2 m u y : Int} (g : Int.gcd u m = 1) : Leads t p t p2 m u y ↔ (y - t * y) % m = (p2 - u * p) % m := by
  have e : (u * p + y) % m = (t * y + p2) % m ↔ (y - t * y) % m = (p2 - u * p) % m := by
    rw [Int.emod_eq_emod_iff_emod_sub_eq_zero, Int.emod_eq_emod_iff_emod_sub_eq_zero, show y - t * y - (p2 - u * p) = u * p + y - (t * y + p2) by omega]
  unfold Leads
  constructor
  · rintro ⟨_, _, h⟩; exact e.mp h
  · intro h; exact ⟨g, by rw [Int.mul_comm], e.mpr h⟩
/-- the first pair, or none -/
def FstP (t1 p1 t2 p2 b : Int) : Option (Int × Int) → Prop
  | some (u, v) => 0 ≤ u ∧ u < b ∧ 0 ≤ v ∧ v < b ∧ Leads t1 p1 t2 p2 b u v ∧ ∀ x y, 0 ≤ x → x < b → 0 ≤ y → y < b → Leads t1 p1 t2 p2 b x y → u < x ∨ (u = x ∧ v ≤ y)
  | none => ∀ x y, 0 ≤ x → x < b → 0 ≤ y → y < b → ¬ Leads t1 p1 t2 p2 b x y
theorem FstP.uniq {t1 p1 t2 p2 b : Int} {r s : Option (Int × Int)} (h : FstP t1 p1 t2 p2 b r) (k : FstP t1 p1 t2 p2 b s) : r = s := by
  rcases r with _ | ⟨u, v⟩ <;> rcases s with _ | ⟨x, y⟩
  · rfl
  · obtain ⟨a, b, c, d, e, _⟩ := k; exact absurd e (h _ _ a b c d)
  · obtain ⟨a, b, c, d, e, _⟩ := h; exact absurd e (k _ _ a b c d)
  · obtain ⟨a, b, c, d, e, f⟩ := h
    obtain ⟨a', b', c', d', e', f'⟩ := k
    have h1 := f _ _ a' b' c' d' e'
    have h2 := f' _ _ a b c d e
    have e1 : u = x := by omega
    have e2 : v = y := by omega
    rw [e1, e2]
/-- a pair or None, in the heap -/
def PV (H : Hp) (v : V) : Option (Int × Int) → Prop
  | some (x, y) => ∃ q, v = .ref q ∧ H q = some (.tup [.int x, .int y])
  | none => v = .non
theorem PV.same {H H' : Hp} {v : V} {r : Option (Int × Int)} (h : PV H v r) (s : Same H H') : PV H' v r := by
  rcases r with _ | ⟨u, w⟩
  · exact h
  · obtain ⟨q, e, k⟩ := h; exact ⟨q, e, s _ _ k⟩
theorem PV.but {H H' : Hp} {v : V} {d : Addr} {n : Nat} {r : Option (Int × Int)} (h : PV H v r) (D : DeckB H d n) (b : But d H H') : PV H' v r := by
  rcases r with _ | ⟨u, w⟩
  · exact h
  · obtain ⟨q, e, k⟩ := h; exact ⟨q, e, b _ _ (D.ne_tup k) k⟩
def pLeast (K : PySem.W.Frag) : V → V → V → Hp → VK → XK → Prop := fun a b c H Q _ => ∃ (r1 r2 : Addr) (t p m t2 p2 u : Int), a = .ref r1 ∧ b = .ref r2 ∧ c = .int u ∧ SqT K H r1 [.int t, .int p, .int m] ∧ SqT K H r2 [.int t2, .int p2, .int m] ∧ Rule t p m ∧ 0 ≤ p2 ∧ p2 < m ∧ 0 ≤ u ∧ u < m ∧
  (∀ v, 0 ≤ v → v < m → Leads t p t p2 m u v → (∀ y, 0 ≤ y → y < v → ¬ Leads t p t p2 m u y) → ∀ H', Same H H' → Q (.int v) H') ∧ ((∀ v, ¬ Leads t p t p2 m u v) → ∀ H', Same H H' → Q .non H')
def pRen (K : PySem.W.Frag) : V → V → Hp → VK → XK → Prop := fun a b H Q _ => ∃ (r1 r2 : Addr) (t1 p1 m1 t2 p2 m2 : Int), a = .ref r1 ∧ b = .ref r2 ∧ SqT K H r1 [.int t1, .int p1, .int m1] ∧ SqT K H r2 [.int t2, .int p2, .int m2] ∧
  (m1 ≠ m2 → Q .non H) ∧ (m1 = m2 → Rule t1 p1 m1 ∧ Rule t2 p2 m1 ∧ m1 ≤ 2000 ∧ ∀ r, FstP t1 p1 t2 p2 m1 r → ∀ H' v, Same H H' → PV H' v r → Q v H')
/-- the law's own -/
def pFst (K : PySem.W.Frag) : V → V → Hp → VK → XK → Prop := fun a b H Q _ => ∃ (r1 r2 : Addr) (t1 p1 m t2 p2 : Int), a = .ref r1 ∧ b = .ref r2 ∧ SqT K H r1 [.int t1, .int p1, .int m] ∧ SqT K H r2 [.int t2, .int p2, .int m] ∧
  Rule t1 p1 m ∧ Rule t2 p2 m ∧ m ≤ 2000 ∧ ∀ r, FstP t1 p1 t2 p2 m r → ∀ H' v, Same H H' → PV H' v r → Q v H'
def pOther (K : PySem.W.Frag) : V → V → Hp → VK → XK → Prop := fun a b H Q _ => ∃ (d r : Addr) (n : Nat) (t p m : Int), a = .ref d ∧ b = .ref r ∧ SqT K H r [.int t, .int p, .int m] ∧ Rule t p m ∧ DeckB H d n ∧ n + 6 ≤ 100000000 ∧
  ∀ (H' : Hp) (q : Addr) (t2 p2 : Int), But d H H' → DeckB H' d (n + 6) → H' q = some (.tup [.int t2, .int p2, .int m]) → Rule t2 p2 m → Q (.ref q) H'
/-- seconds by what they are wanted for, the least -/
def Sec (kv : List (Key × V)) (t lo m : Int) : Prop := ∀ x : Int, (valV kv (Sum.inl x) = none → ∀ s, lo ≤ s → s < m → (s - t * s) % m ≠ x) ∧
  ∀ y, valV kv (Sum.inl x) = some y → ∃ s, y = .int s ∧ lo ≤ s ∧ s < m ∧ (s - t * s) % m = x ∧ ∀ s', lo ≤ s' → s' < s → (s' - t * s') % m ≠ x
theorem Sec.put {kv : List (Key × V)} {t lo m : Int} (h : Sec kv t lo m) (hl : lo ≤ m) : Sec (putK kv (Sum.inl ((lo - 1 - t * (lo - 1)) % m)) (.int (lo - 1))) t (lo - 1) m := by
  intro x
  rw [valV_put]
  by_cases e : x = (lo - 1 - t * (lo - 1)) % m
  · rw [if_pos (by rw [e])]
    refine ⟨(fun z => by cases z), fun y z => ?_⟩
    cases z
    exact ⟨lo - 1, rfl, by omega, by omega, e.symm, fun s' a b => by omega⟩
  · rw [if_neg (fun z => e (Sum.inl.inj z))]
    obtain ⟨h1, h2⟩ := h x
    refine ⟨fun z s a b => ?_, fun y z => ?_⟩
    · by_cases es : s = lo - 1
      · rw [es]; exact fun q => e q.symm
      · exact h1 z s (by omega) b
    · obtain ⟨s, a, b, c, d, f⟩ := h2 y z
      refine ⟨s, a, by omega, c, d, fun s' a' b' => ?_⟩
      by_cases es : s' = lo - 1
      · rw [es]; exact fun q => e q.symm
      · exact f s' (by omega) b'
theorem putK_le (c : List (Key × V)) (k : Key) (x : V) : (putK c k x).length ≤ c.length + 1 := by
  unfold putK
  by_cases e : (c.any fun kv => decide (kv.1 = k)) = true
  · rw [if_pos e, List.length_map]
    omega
  · rw [if_neg e, List.length_append]
    simp
def dOp : Option (Int × Int) → PyData
  | some (x, y) => .tuple ([x, y].map PyData.int)
  | none => .none
theorem dOp_shp (r : Option (Int × Int)) : SeqAt.shaped (dOp r) = true := by
  rcases r with _ | ⟨x, y⟩
  · rfl
  · exact shp_ints [x, y]
theorem PV.dp {K : PySem.W.Frag} {H : Hp} {v : V} {r : Option (Int × Int)} (h : PV H v r) : Dp K H v (dOp r) := by
  rcases r with _ | ⟨x, y⟩
  · obtain rfl : v = .non := h
    exact .non
  · obtain ⟨q, rfl, e⟩ := h
    exact .tup (SqT.of e) (dp_ints [x, y])
theorem PV.same12 {K : PySem.W.Frag} {H : Hp} {v z : V} {r : Option (Int × Int)} {Q : VK} {E : XK} (h : PV H v r) (k : PV H z r) (q : ∀ H', Same H H' → Q (.bl true) H') : pSame12 K v z H Q E := by
  rcases r with _ | ⟨x, y⟩
  · obtain rfl : v = .non := h
    obtain rfl : z = .non := k
    exact .inl (.inr ⟨rfl, rfl, q _ (fun _ _ z => z)⟩)
  · obtain ⟨a, rfl, e⟩ := h
    obtain ⟨b, rfl, e'⟩ := k
    exact .inr ⟨a, b, [x, y], rfl, rfl, e, e', q⟩
theorem Sec.nil (t m : Int) : Sec [] t m m := fun x => ⟨fun _ s a b => by omega, fun y z => by cases z⟩
end Tw

/-! Rules that are alike: their rows, rounds and all rounds; pairs by their order. -/
namespace Tw
open PySem PySem.Spec PyProof.Rows L2
/-! ### a > b of pairs of whole numbers -/
def gtP (p q r s : Int) : Bool := decide (r < p ∨ (r = p ∧ s < q))
def rGtT (K : PySem.W.Frag) : R2 := fun x y H Q => ∃ (a b : Addr) (p q r s : Int), x = .ref a ∧ y = .ref b ∧ SqT K H a [.int p, .int q] ∧ SqT K H b [.int r, .int s] ∧ Q (.bl (gtP p q r s)) H
theorem lt_two (r s p q : Int) : PySem.W.dataLt (.tuple [.int r, .int s]) (.tuple [.int p, .int q]) = gtP p q r s := by
  unfold PySem.W.dataLt gtP
  show PyProof.Rows.lexLt itemOrd [Sum.inl 1, Sum.inl r, Sum.inl 1, Sum.inl s, Sum.inl 0] [Sum.inl 1, Sum.inl p, Sum.inl 1, Sum.inl q, Sum.inl 0] = _
  rw [lex_self (O := itemOrd)]
  by_cases e : r = p
  · subst e
    rw [lex_self (O := itemOrd), lex_self (O := itemOrd)]
    by_cases e2 : s = q
    · subst e2
      rw [lex_self (O := itemOrd), lex_self (O := itemOrd)]
      simp [PyProof.Rows.lexLt]
    · rw [lex_diff (O := itemOrd) (by simpa using e2)]
      show decide (s < q) = _
      simp
  · rw [lex_diff (O := itemOrd) (by simpa using e)]
    show decide (r < p) = _
    simp [e]
theorem op_gtT {X : Cx} (hu : X.A.units + 64 < cLine) : OpR X (compareOp .Gt) (rGtT X.K) := by
  intro pins s σ H x y v u Q I rx ry h
  obtain ⟨a, b, p, q, r, t, rfl, rfl, ha, hb, k⟩ := h
  obtain ⟨as, r1⟩ := Dp.reads I (.tuple ([p, q].map PyData.int)) _ v (.tup ha (dp_ints [p, q])) rx
  obtain ⟨bs, r2⟩ := Dp.reads I (.tuple ([r, t].map PyData.int)) _ u (.tup hb (dp_ints [r, t])) ry
  refine PySem.W.gt_data r1 r2 rfl (fun z => nomatch z) (Nat.lt_of_le_of_lt (Nat.add_le_add_left (Nat.le_trans (Nat.min_le_left _ _) (show _ ≤ 64 from ?_)) _) hu) ?_
  · show PyData.depth (.tuple [.int p, .int q]) ≤ 64
    simp [PyData.depth, PyData.depthAll]
  · have e := lt_two r t p q
    show ∃ _, _
    refine ⟨.bl (gtP p q r t), H, I, ?_, k⟩
    rw [← e]
    rfl
theorem orb_gDe (f : Int → Int) {n i : Nat} (x : Int) (h : i < n) : (orb f n x).getD i 0 = itr f i x := by
  rw [List.getD_eq_getElem?_getD, orb_get f x h]
  rfl
/-! ### new names -/
def nam (u v b x : Int) : Int := (u * x + v) % b
structure Cj (f g φ : Int → Int) (m : Int) : Prop where
  fr : ∀ x, 0 ≤ x → x < m → 0 ≤ f x ∧ f x < m
  pr : ∀ x, 0 ≤ x → x < m → 0 ≤ φ x ∧ φ x < m
  inj : ∀ x y, 0 ≤ x → x < m → 0 ≤ y → y < m → φ x = φ y → x = y
  cj : ∀ x, 0 ≤ x → x < m → φ (f x) = g (φ x)
theorem cj_leads {t1 p1 t2 p2 b u v : Int} (b0 : 0 < b) (h : Leads t1 p1 t2 p2 b u v) : Cj (stp t1 p1 b) (stp t2 p2 b) (nam u v b) b where
  fr := fun x _ _ => stp_rng b0 x
  pr := fun x _ _ => mod_bd _ b0
  inj := fun x y x0 x1 y0 y1 e => by
    have d : b ∣ (u * x + v) - (u * y + v) := Int.dvd_of_emod_eq_zero (Int.emod_eq_emod_iff_emod_sub_eq_zero.mp e)
    rw [show (u * x + v) - (u * y + v) = u * (x - y) by grind] at d
    have d2 : b ∣ x - y := by
      have hc : Nat.Coprime b.natAbs u.natAbs := by have g := h.1; rw [Int.gcd_comm] at g; exact g
      have d3 := Int.natAbs_dvd_natAbs.mpr d
      rw [Int.natAbs_mul] at d3
      exact Int.natAbs_dvd_natAbs.mp (hc.dvd_of_dvd_mul_left d3)
    obtain ⟨k, hk⟩ := d2
    have k0 : k = 0 := by
      by_cases c : k = 0
      · exact c
      · rcases Int.lt_or_gt_of_ne c with c | c
        · have : b * k ≤ b * (-1) := Int.mul_le_mul_of_nonneg_left (by omega) (by omega)
          omega
        · have : b * 1 ≤ b * k := Int.mul_le_mul_of_nonneg_left (by omega) (by omega)
          omega
    subst k0
    omega
  cj := fun x _ _ => by
    have e := leads_all h.2.1 h.2.2 x
    unfold ldE at e
    show (u * ((t1 * x + p1) % b) + v) % b = (t2 * ((u * x + v) % b) + p2) % b
    refine sub_mod.mp ?_
    rw [← e]
    congr 1
    omega
theorem Cj.itr {f g φ : Int → Int} {m : Int} (h : Cj f g φ m) {x : Int} (x0 : 0 ≤ x) (x1 : x < m) : ∀ n, (0 ≤ itr f n x ∧ itr f n x < m) ∧ itr g n (φ x) = φ (itr f n x)
  | 0 => ⟨⟨x0, x1⟩, rfl⟩
  | n + 1 => by
    obtain ⟨a, b⟩ := h.itr x0 x1 n
    refine ⟨h.fr _ a.1 a.2, ?_⟩
    show g (Tw.itr g n (φ x)) = φ (f (Tw.itr f n x))
    rw [b, h.cj _ a.1 a.2]
theorem Cj.orb {f g φ : Int → Int} {m : Int} (h : Cj f g φ m) {x : Int} (x0 : 0 ≤ x) (x1 : x < m) (n : Nat) : orb g n (φ x) = (orb f n x).map φ := by
  unfold Tw.orb
  rw [List.map_map]
  refine List.map_congr_left fun i _ => ?_
  exact (h.itr x0 x1 i).2
theorem Cj.mem {f g φ : Int → Int} {m : Int} (h : Cj f g φ m) {ws : List Int} (rg : Rng m ws) {x : Int} (x0 : 0 ≤ x) (x1 : x < m) : φ x ∈ ws.map φ ↔ x ∈ ws := by
  constructor
  · intro z
    obtain ⟨y, hy, e⟩ := List.mem_map.mp z
    have := rg y hy
    rw [← h.inj _ _ this.1 this.2 x0 x1 e]
    exact hy
  · exact fun z => List.mem_map.mpr ⟨x, z, rfl⟩
theorem Cj.wk {f g φ : Int → Int} {m : Int} (h : Cj f g φ m) : ∀ (k : Nat) (ws : List Int) (x : Int), Rng m ws → 0 ≤ x → x < m → wk g k (ws.map φ) (φ x) = ((wk f k ws x).1.map φ, φ (wk f k ws x).2) ∧ Rng m (wk f k ws x).1 ∧ 0 ≤ (wk f k ws x).2 ∧ (wk f k ws x).2 < m
  | 0, ws, x, rg, x0, x1 => ⟨rfl, rg, x0, x1⟩
  | k + 1, ws, x, rg, x0, x1 => by
    by_cases c : x ∈ ws
    · rw [wk_in c, wk_in ((h.mem rg x0 x1).mpr c)]
      exact ⟨rfl, rg, x0, x1⟩
    · rw [wk_out c, wk_out (fun z => c ((h.mem rg x0 x1).mp z)), ← h.cj x x0 x1]
      have r := h.fr x x0 x1
      have := Cj.wk h k (ws ++ [x]) (f x) (rng_snoc rg ⟨x0, x1⟩) r.1 r.2
      rw [List.map_append] at this
      exact this
theorem Cj.idx {f g φ : Int → Int} {m : Int} (h : Cj f g φ m) {x : Int} (x0 : 0 ≤ x) (x1 : x < m) : ∀ {ws : List Int}, Rng m ws → (ws.map φ).idxOf (φ x) = ws.idxOf x
  | [], _ => rfl
  | w :: ws, rg => by
    rw [List.map_cons, List.idxOf_cons, List.idxOf_cons]
    have rw0 := rg w List.mem_cons_self
    by_cases e : w = x
    · subst e
      simp
    · have ne : φ w ≠ φ x := fun z => e (h.inj _ _ rw0.1 rw0.2 x0 x1 z)
      rw [beq_eq_false_iff_ne.mpr e, beq_eq_false_iff_ne.mpr ne, h.idx x0 x1 (fun y hy => rg y (List.mem_cons_of_mem _ hy))]
theorem Cj.round {t1 p1 t2 p2 m : Int} {φ : Int → Int} (h : Cj (stp t1 p1 m) (stp t2 p2 m) φ m) {s : Int} (s0 : 0 ≤ s) (s1 : s < m) : rndT t2 p2 m (φ s) = rndT t1 p1 m s ∧ rndL t2 p2 m (φ s) = rndL t1 p1 m s := by
  have W := h.wk (m.toNat + 1) [] s (fun x hx => by cases hx) s0 s1
  have e : rndW t2 p2 m (φ s) = ((rndW t1 p1 m s).1.map φ, φ (rndW t1 p1 m s).2) := W.1
  have hT : rndT t2 p2 m (φ s) = rndT t1 p1 m s := by
    have i := h.idx W.2.2.1 W.2.2.2 W.2.1
    unfold rndT
    rw [e]
    exact congrArg (fun (n : Nat) => (n : Int)) i
  refine ⟨hT, ?_⟩
  unfold rndL
  rw [hT, e, List.length_map]
theorem Cj.per {f g φ : Int → Int} {m : Int} (h : Cj f g φ m) {x : Int} (x0 : 0 ≤ x) (x1 : x < m) (L : Nat) : Per g L (φ x) ↔ Per f L x := by
  have e : ∀ j, Tw.itr g j (φ x) = φ x ↔ Tw.itr f j x = x := fun j => by
    obtain ⟨a, b⟩ := h.itr x0 x1 j
    rw [b]
    exact ⟨fun z => h.inj _ _ a.1 a.2 x0 x1 z, fun z => by rw [z]⟩
  unfold Per
  rw [e L]
  exact ⟨fun ⟨a, b, c⟩ => ⟨a, b, fun j j1 j2 z => c j j1 j2 ((e j).mpr z)⟩, fun ⟨a, b, c⟩ => ⟨a, b, fun j j1 j2 z => c j j1 j2 ((e j).mp z)⟩⟩
theorem Cj.nper {f g φ : Int → Int} {m : Int} (h : Cj f g φ m) (L : Nat) : Nper g m L = Nper f m L := by
  have nd : ((alls m).map φ).Nodup := by
    have n0 := alls_nodup m
    rw [List.nodup_iff_pairwise_ne] at n0 ⊢
    rw [List.pairwise_map]
    refine List.Pairwise.imp_of_mem (fun {a b} ha hb hne z => ?_) n0
    have r1 := alls_mem.mp ha
    have r2 := alls_mem.mp hb
    exact hne (h.inj _ _ r1.1 r1.2 r2.1 r2.2 z)
  have sub : ∀ x ∈ (alls m).map φ, x ∈ alls m := fun x hx => by
    obtain ⟨y, hy, rfl⟩ := List.mem_map.mp hx
    have r := alls_mem.mp hy
    exact alls_mem.mpr (h.pr y r.1 r.2)
  have e1 : pcnt g ((alls m).map φ) L = Nper g m L := pcnt_same nd (alls_nodup m) fun x _ => ⟨sub x, fun z => sub_eq nd sub (List.length_map ..) z⟩
  rw [← e1]
  unfold Nper pcnt
  rw [List.countP_map]
  refine List.countP_congr fun x hx => ?_
  have r := alls_mem.mp hx
  simp only [Function.comp, decide_eq_true_eq]
  exact h.per r.1 r.2 L
theorem Cj.rds {f g φ : Int → Int} {m : Int} (h : Cj f g φ m) {zs : List (Int × Int)} (r : Rds g m zs) : Rds f m zs := ⟨r.up, fun L c => by
  rw [r.mem L c]
  unfold Crnd
  simp only [h.nper]⟩
/-! ### renamings one behind the other, and back -/
theorem gcd_red (u b : Int) : Int.gcd (u % b) b = Int.gcd u b := gcd_ext fun d => by
  have e := Int.mul_ediv_add_emod u b
  constructor
  · rintro ⟨⟨x, hx⟩, ⟨y, hy⟩⟩
    exact ⟨⟨y * (u / b) + x, by rw [hx] at e; grind⟩, ⟨y, hy⟩⟩
  · rintro ⟨⟨x, hx⟩, ⟨y, hy⟩⟩
    exact ⟨⟨x - y * (u / b), by grind⟩, ⟨y, hy⟩⟩
theorem gcd_mul1 {x u b : Int} (g1 : Int.gcd u b = 1) (g2 : Int.gcd x b = 1) : Int.gcd (x * u) b = 1 := by
  show Nat.gcd (x * u).natAbs b.natAbs = 1
  rw [Int.natAbs_mul]
  exact Nat.Coprime.mul_left g2 g1
/-- what is asked, by what divides -/
theorem leads_dvd {t1 p1 t2 p2 b u v : Int} : Leads t1 p1 t2 p2 b u v ↔ Int.gcd u b = 1 ∧ b ∣ u * t1 - t2 * u ∧ b ∣ u * p1 + v - (t2 * v + p2) := by
  unfold Leads
  rw [Int.emod_eq_emod_iff_emod_sub_eq_zero, Int.emod_eq_emod_iff_emod_sub_eq_zero, ← Int.dvd_iff_emod_eq_zero, ← Int.dvd_iff_emod_eq_zero]
theorem leads_red {t1 p1 t2 p2 b u v : Int} (h : Leads t1 p1 t2 p2 b u v) : Leads t1 p1 t2 p2 b (u % b) (v % b) := by
  rw [leads_dvd] at h ⊢
  obtain ⟨g, ⟨c, hc⟩, ⟨d, hd⟩⟩ := h
  rw [gcd_red]
  have e1 := Int.mul_ediv_add_emod u b
  have e2 := Int.mul_ediv_add_emod v b
  generalize u % b = x at *
  generalize v % b = y at *
  generalize u / b = k at *
  generalize v / b = l at *
  subst e1 e2
  exact ⟨g, ⟨c - k * t1 + t2 * k, by grind⟩, ⟨d - k * p1 - l + t2 * l, by grind⟩⟩
theorem leads_two {t1 p1 t2 p2 t3 p3 b u v x y : Int} (h : Leads t1 p1 t2 p2 b u v) (k : Leads t2 p2 t3 p3 b x y) : Leads t1 p1 t3 p3 b (x * u % b) ((x * v + y) % b) := by
  refine leads_red ?_
  rw [leads_dvd] at h k ⊢
  obtain ⟨g1, ⟨c, hc⟩, ⟨d, hd⟩⟩ := h
  obtain ⟨g2, ⟨e, he⟩, ⟨f, hf⟩⟩ := k
  exact ⟨gcd_mul1 g1 g2, ⟨x * c + u * e, by grind⟩, ⟨x * d + v * e + f, by grind⟩⟩
theorem bezI : ∀ (a b : Nat), ∃ x y : Int, (a : Int) * x + (b : Int) * y = (Nat.gcd a b : Nat) := by
  intro a b
  induction a, b using Nat.gcd.induction with
  | H0 n => exact ⟨0, 1, by rw [Nat.gcd_zero_left]; grind⟩
  | H1 m n hm ih =>
    obtain ⟨x, y, h⟩ := ih
    rw [Nat.gcd_rec]
    have e : (n : Int) = (m : Int) * ((n / m : Nat) : Int) + ((n % m : Nat) : Int) := by
      have := Nat.div_add_mod n m
      rw [← Int.natCast_mul, ← Int.natCast_add, this]
    exact ⟨y - ((n / m : Nat) : Int) * x, x, by rw [← h, e]; grind⟩
theorem inv_ex {u b : Int} (b0 : 0 < b) (g : Int.gcd u b = 1) : ∃ w c : Int, u * w = 1 + b * c := by
  obtain ⟨x, y, h⟩ := bezI u.natAbs b.natAbs
  have g' : Nat.gcd u.natAbs b.natAbs = 1 := g
  rw [g'] at h
  have hb : (b.natAbs : Int) = b := by omega
  rw [hb] at h
  by_cases c : 0 ≤ u
  · have hu : (u.natAbs : Int) = u := by omega
    rw [hu] at h
    exact ⟨x, -y, by grind⟩
  · have hu : (u.natAbs : Int) = -u := by omega
    rw [hu] at h
    exact ⟨-x, -y, by grind⟩
theorem leads_back {t1 p1 t2 p2 b u v : Int} (b0 : 0 < b) (h : Leads t1 p1 t2 p2 b u v) : ∃ x y, 0 ≤ x ∧ x < b ∧ 0 ≤ y ∧ y < b ∧ Leads t2 p2 t1 p1 b x y := by
  obtain ⟨w, c, hw⟩ := inv_ex b0 h.1
  have r1 := mod_bd w b0
  have r2 := mod_bd (-w * v) b0
  refine ⟨w % b, (-w * v) % b, r1.1, r1.2, r2.1, r2.2, leads_red ?_⟩
  rw [leads_dvd] at h ⊢
  obtain ⟨g, ⟨d, hd⟩, ⟨e, he⟩⟩ := h
  have q : b ∣ w * t2 - t1 * w := ⟨t1 * w * c - w * t2 * c - w * w * d, by grind⟩
  refine ⟨?_, q, ?_⟩
  · have z : ∀ k : Int, k ∣ w → k ∣ b → k ∣ 1 := fun k ⟨m, hm⟩ ⟨n, hn⟩ => ⟨u * m - n * c, by rw [hm, hn] at hw; grind⟩
    have z1 := z _ (Int.gcd_dvd_left (a := w) (b := b)) (Int.gcd_dvd_right (a := w) (b := b))
    exact Nat.dvd_one.mp (Int.natCast_dvd_natCast.mp (by simpa using z1))
  · obtain ⟨k, hk⟩ := q
    exact ⟨-w * e + c * p1 - v * k, by grind⟩
end Tw

/-! enumerate of a list or a tuple; every second number of a row; the fits of woven rows. -/
namespace Tw
open PySem PySem.Spec PyProof.Rows L2
abbrev enO (it : Addr) : Obj := { cls := .type "enumerate", data := .fields #[.none, .bool false, .ref it, rawInt 0, .none, .none] }
theorem enum_meets {v : Value} {o : Obj} {G : Heap → Prop} (B : Begins v o G) : Meets (Builtin.«enumerate.__new__» ⟨[.type "enumerate", v], []⟩) (fun _ R z => G z.heap ∧ R (.ok (.ret (.ref (z.heap.push o).objs.size))) { z with heap := (z.heap.push o).push (enO z.heap.objs.size) }) :=
  .of_wp fun prog w A R z h => by
    obtain ⟨hp, gl, dp, tk, os⟩ := z
    obtain ⟨hG, hR⟩ := h
    have isub := sub_enumerate
    have stp : ∀ {A' : Around} {E Q : Value → Shared → Prop}, Q (.ref hp.objs.size) ⟨hp.push o, gl, dp, tk, os⟩ → wpAny (model prog w) A' (pyIter v) Q E ⟨hp, gl, dp, tk, os⟩ := fun q => B.iter prog w _ _ ⟨hp, gl, dp, tk, os⟩ _ hG q
    wp_walk using stp
    refine wpAny_stack_any fun zs => wpAny_pure ?_
    split
    · rename_i c _ _ _ _ _
      cases (c == Value.type "enumerate")
      · wp_walk using stp
        exact ⟨_, rfl, hR⟩
      · wp_walk using stp
        exact ⟨_, rfl, hR⟩
    · wp_walk using stp
      exact ⟨_, rfl, hR⟩
section
variable {prog : Program} {w : World} {A : Around} {E : Value → Shared → Prop} {s : Shared}
theorem enum_begins1 {v : Value} {o : Obj} {G : Heap → Prop} {Q : Value → Shared → Prop} (B : Begins v o G) (hG : G s.heap)
    (k : ∀ h', IsEnum h' (s.heap.objs.size + 1) s.heap.objs.size 0 .none → h'.get? s.heap.objs.size = some o → (∀ b ob, s.heap.get? b = some ob → h'.get? b = some ob) → Q (.ref (s.heap.objs.size + 1)) { s with heap := h' }) : wpAny (model prog w) A (call (.type "enumerate") [v]) Q E s := by
  refine callType_new F.called_enumerate (by decide) (F.typeCall_enumerate_1 _) (F.newCall_enumerate_1 _) (fun obj => F.args_object_init_2 obj _) F.entry_enumerate_new (enum_meets B) ⟨hG, ?_⟩
  have zs : (s.heap.push o).objs.size = s.heap.objs.size + 1 := Heap.size_push ..
  show _ ∧ _
  rw [zs]
  have en : IsEnum ((s.heap.push o).push (enO s.heap.objs.size)) (s.heap.objs.size + 1) s.heap.objs.size 0 .none := by
    have := Heap.get?_push_size (s.heap.push o) (o := enO s.heap.objs.size) rfl
    rw [zs] at this
    exact this
  exact ⟨⟨_, en, rfl⟩, k _ en (Heap.get?_push_of_some _ (Heap.get?_push_size _ B.free)) fun b ob x => Heap.get?_push_of_some _ (Heap.get?_push_of_some _ x)⟩
end
/-- the row at a, each item in a new pair with its place -/
def Itex (K : PySem.W.Frag) (t : Bool) (a : Addr) : It :=
  ⟨fun i H => ∃ (xs : List V) (x : V), SqX K t H a xs ∧ xs[i]? = some x, fun i H v H' => ∃ T x, v = .ref T ∧ H T = none ∧ H' = upd H T (.tup [.int (i : Nat), x]) ∧ ∀ xs, SqX K t H a xs → xs[i]? = some x, fun i H => ∃ xs : List V, SqX K t H a xs ∧ xs.length = i⟩
theorem turn_ex {P : Program} {w : World} {K : PySem.W.Frag} {elts : List Expr} {kk : Nat} {tpos : Pos} {t : Bool} {a e it : Addr} (ne : e ≠ it) (na : e ≠ a) (ni : a ≠ it) :
    Turn P w K (.Tuple elts kk tpos) (Itex K t a) [e, it] e (fun i h => (∃ old, IsEnum h e it ((i : Nat) : Int) old) ∧ ItX t h it a i) where
  mem := by simp
  obj := fun i h st b hb => by
    obtain ⟨⟨old, en⟩, hi⟩ := st
    have e' : b = e ∨ b = it := by simpa using hb
    rcases e' with q | q
    · rw [q]; exact ⟨_, en, fun v q => nomatch q⟩
    · rw [q]; exact hi.obj
  keep := fun i h h' st k => by
    obtain ⟨⟨old, en⟩, hi⟩ := st
    exact ⟨⟨old, k e (by simp) _ en⟩, hi.over fun o q => k it (by simp) o q⟩
  item := by
    intro X hP hw hK hc i pins s σ H E I hf st hg
    subst hP hw hK
    obtain ⟨⟨old, en⟩, hi⟩ := st
    obtain ⟨xs, x, hq, hx⟩ := hg
    obtain ⟨its, rv, p, _⟩ := srcX I hq
    obtain ⟨u, hu, ru⟩ := rv.get hx
    have hh : X.A.in1.handled = none := I.ok.hd hc
    have hel : e < s.heap.objs.size := Heap.lt_size en
    have hil : it < s.heap.objs.size := by obtain ⟨_, q, _⟩ := hi.obj; exact Heap.lt_size q
    refine wpAny_pyNext_enum_itemD (drawsX t hh it a ni its.toArray) en ⟨hi, p⟩ (by have := (List.getElem?_eq_some_iff.mp hu).1; simpa using this) ne (by simp [ne, na]) fun z h' tk ez ho hn hT hsz hk => ?_
    obtain rfl : z = u := by
      rw [List.getElem?_toArray] at ez
      exact Option.some.inj (ez.symm.trans hu)
    refine ⟨_, rfl, wpAny_letOwnedTupleGo_enum (s := { s with heap := h', toks := tk + 1 }) ho fun h'' en' sb => ?_⟩
    have hT2 : h''.get? s.heap.objs.size = some { cls := .type "tuple", data := .seq #[.int i tk, z] } := (sb.2 _ (Nat.ne_of_gt hel)).trans hT
    have new : ObjOk X.prog X.w (upd H s.heap.objs.size (.tup [.int (i : Nat), x])) h'' s.heap.objs.size (.tup [.int (i : Nat), x]) :=
      ⟨by show 2 ≤ sizeLine; decide, [.int i tk, z], .cons ⟨_, rfl⟩ (.cons ru .nil), ⟨_, hT2, rfl, _, rfl⟩⟩
    have I1 : Inv X pins σ (upd H s.heap.objs.size (.tup [.int (i : Nat), x])) { s with heap := h'', toks := tk + 1 } :=
      I.turnedNew (t' := tk + 1) (ch := [e, it]) (fun b ob hb q => (sb.2 b (fun r => hb (by simp [r]))).trans (hk b ob (fun r => hb (by simp [r])) (fun r => hb (by simp [r])) q)) hf (Nat.le_refl _) new
    refine ⟨.ref s.heap.objs.size, _, I1, rfl, ⟨_, x, rfl, I.hok.fresh (Nat.le_refl _), rfl, fun ys hy => by rw [injX I hy hq]; exact hx⟩, ⟨⟨z, ?_⟩, hn.1.over fun o q => (sb.2 it (Ne.symm ne)).trans q⟩, fun b hb => ?_⟩
    · have e1 : ((i + 1 : Nat) : Int) = (i : Int) + 1 := by omega
      rw [e1]
      exact en'
    · have hb' : b < s.heap.objs.size := by
        have e' : b = e ∨ b = it := by simpa using hb
        rcases e' with q | q
        · rw [q]; exact hel
        · rw [q]; exact hil
      rw [upd_ne (Nat.ne_of_lt hb')]
      exact (hf b hb).1
  done := by
    intro X hP hw hK hc i pins s σ H E I hf st hg
    subst hP hw hK
    obtain ⟨⟨old, en⟩, hi⟩ := st
    obtain ⟨xs, hq, hx⟩ := hg
    obtain ⟨its, rv, p, _⟩ := srcX I hq
    have hh : X.A.in1.handled = none := I.ok.hd hc
    obtain ⟨f0, f1, f2, f3, f4, f5⟩ := hf it (by simp)
    have hl := rv.length
    have ez : its.toArray.size = i := by simp; omega
    exact wpAny_pyNext_enum_endD (drawsX t hh it a ni its.toArray) en (by rw [ez]; exact ⟨hi, p⟩) fun h' eb => ⟨rfl, I.turned (t' := s.toks) (fun b o hb q => eb b o hb q) f0 f1 f3 f4 f5⟩
  self := fun A i s Q E st h => let ⟨⟨_, en⟩, _⟩ := st; wpAny_pyIter_enum en h
def iEnumX (K : PySem.W.Frag) (ta : TA) : TI := fun σ H R => ta σ H fun vs H1 => ∃ (t : Bool) (a : Addr) (xs : List V), vs = [.ref a] ∧ SqX K t H1 a xs ∧ R (Itex K t a) H1
theorem pi_enumX {X : Cx} {e : Expr} {ta : TA} {p pos tpos : Pos} {elts : List Expr} {kk : Nat} (hg : Gl X "enumerate") (hm : X.mg "enumerate" = none) (ha : PA X [e] ta) (hs : starEach [e] X.env = [(false, eval e X.env)] := by rfl) :
    PI X (.Tuple elts kk tpos) (.Call (.Name "enumerate" p) [e] [] pos) (iEnumX X.K ta) := by
  refine ⟨fun pins s σ H R I h => Call_ (ld_blt I hg hm boot_enumerate (PyProof.Rows.callWith_type1 (thn (ha.run pos pins s σ H _ I h) fun us s1 ⟨vs, H1, I1, r1, q1⟩ => ?_) hs rfl))⟩
  obtain ⟨t, a, xs, ex, hq, q⟩ := q1
  subst ex
  obtain ⟨ss, rv, p', lt⟩ := srcX I1 hq
  obtain ⟨o, B, b⟩ := beginsX t a ss.toArray
  rw [Vals.ref1 r1]
  refine enum_begins1 B p' fun h' en hit hk => wpAny_pyIter_enum en ?_
  have I2 : Inv X pins σ H1 { s1 with heap := h' } := I1.kept (t' := s1.toks) hk
  refine ⟨s1.heap.objs.size + 1, [s1.heap.objs.size + 1, s1.heap.objs.size], _, _, H1, rfl, I2, turn_ex (e := s1.heap.objs.size + 1) (it := s1.heap.objs.size) (a := a) (t := t) (Nat.succ_ne_self _) (fun z => ?_) (Nat.ne_of_lt lt), ⟨⟨.none, en⟩, b _ _ hit⟩, fun c hcm => ?_, q⟩
  · exact absurd lt (by rw [← z]; exact Nat.not_lt.mpr (Nat.le_succ _))
  · have e' : c = s1.heap.objs.size + 1 ∨ c = s1.heap.objs.size := by simpa using hcm
    have hle : s1.heap.objs.size ≤ c := by
      rcases e' with q | q
      · rw [q]; exact Nat.le_add_right _ _
      · rw [q]; exact Nat.le_refl _
    exact I1.fpOk hle (I1.hok.fresh hle)
theorem walk_ex {K : PySem.W.Frag} {t : Bool} {a : Addr} {xs : List V} : Walk (Itex K t a) xs.length (fun H => SqX K t H a xs) (fun i H v H' => ∃ T x, v = .ref T ∧ H T = none ∧ H' = upd H T (.tup [.int (i : Nat), x]) ∧ xs[i]? = some x) := by
  refine ⟨fun i _ hi q => ⟨xs, xs[i], q, by simp [hi]⟩, fun _ q => ⟨xs, q, rfl⟩, fun i H v H' _ q y => ?_⟩
  obtain ⟨T, x, h1, h2, h3, h4⟩ := y
  exact ⟨T, x, h1, h2, h3, h4 xs q⟩
/-! ### every second one -/
def ev2 (xs : List Int) (i : Nat) : List Int := (List.range ((xs.length + 1 - i) / 2)).map fun j => xs.getD (i + 2 * j) 0
theorem ev2_len (xs : List Int) (i : Nat) : (ev2 xs i).length = (xs.length + 1 - i) / 2 := by unfold ev2; rw [List.length_map, List.length_range]
theorem ev2_get {xs : List Int} {i j : Nat} (h : j < (xs.length + 1 - i) / 2) : (ev2 xs i).getD j 0 = xs.getD (i + 2 * j) 0 := by
  unfold ev2
  rw [List.getD_eq_getElem?_getD, List.getElem?_map, List.getElem?_range h]
  rfl
theorem fm_some {α β : Type} (f : α → Option β) (g : α → β) : ∀ l : List α, (∀ a ∈ l, f a = some (g a)) → l.filterMap f = l.map g
  | [], _ => rfl
  | a :: l, h => by rw [List.filterMap_cons_some (h a List.mem_cons_self), List.map_cons, fm_some f g l (fun b hb => h b (List.mem_cons_of_mem _ hb))]
theorem stepL_two {xs : List Int} {i : Nat} (i1 : i ≤ 1) : stepL (xs.map V.int) (i : Int) 2 ((xs.length + 1 - i) / 2) = (ev2 xs i).map V.int := by
  unfold stepL ev2
  rw [List.map_map]
  refine fm_some _ _ _ fun j hj => ?_
  have hj := List.mem_range.mp hj
  have e : ((i : Int) + (j : Int) * 2).toNat = i + 2 * j := by omega
  rw [e, List.getElem?_map, List.getElem?_eq_getElem (by omega)]
  show some (V.int xs[i + 2 * j]) = some (V.int (xs.getD (i + 2 * j) 0))
  rw [get_D (List.getElem?_eq_getElem (show i + 2 * j < xs.length by omega))]
theorem st_fx {xs : List Int} {i : Nat} {l : Option Int} (hl : l = some (i : Int) ∨ (l = none ∧ i = 0)) (i1 : i ≤ 1) (x1 : 1 ≤ xs.length) (x2 : xs.length ≤ 100000) : (i : Int) = (Builtin.Slice.sliceAdjust l none 2 ((xs.map V.int).length : Int)).1 ∧
    (xs.length + 1 - i) / 2 = Builtin.Slice.slicePlaces (Builtin.Slice.sliceAdjust l none 2 ((xs.map V.int).length : Int)).1 (Builtin.Slice.sliceAdjust l none 2 ((xs.map V.int).length : Int)).2 2 ∧ (xs.length + 1 - i) / 2 ≤ sizeLine := by
  have e1 : (Builtin.Slice.sliceAdjust l none 2 ((xs.map V.int).length : Int)).1 = (i : Int) := by
    rw [List.length_map]
    rcases hl with rfl | ⟨rfl, rfl⟩
    · unfold Builtin.Slice.sliceAdjust
      simp only [show ¬ ((2 : Int) < 0) by decide, if_false]
      show (if (i : Int) < 0 then _ else min (i : Int) (xs.length : Int)) = _
      rw [if_neg (by omega)]
      omega
    · rfl
  have e2 : (Builtin.Slice.sliceAdjust l none 2 ((xs.map V.int).length : Int)).2 = (xs.length : Int) := by
    rw [List.length_map]
    rfl
  have e3 : Builtin.Slice.slicePlaces (i : Int) (xs.length : Int) 2 = (xs.length + 1 - i) / 2 := by
    unfold Builtin.Slice.slicePlaces
    rw [if_pos (by decide)]
    split <;> omega
  exact ⟨e1.symm, by rw [e1, e2, e3], Nat.le_trans (show _ ≤ 100000 by omega) (by decide)⟩
/-- the numbers of a woven row are numbers of their row's bound -/
def bdw (m1 m2 : Int) (i : Nat) : Int := if i % 2 = 0 then m1 else m2
def RngW (m1 m2 : Int) (xs : List Int) : Prop := ∀ i, i < xs.length → 0 ≤ xs.getD i 0 ∧ xs.getD i 0 < bdw m1 m2 i
def FirstBadW (m1 m2 : Int) (xs : List Int) (i : Nat) : Prop := i < xs.length ∧ ¬ (0 ≤ xs.getD i 0 ∧ xs.getD i 0 < bdw m1 m2 i) ∧ ∀ j, j < i → 0 ≤ xs.getD j 0 ∧ xs.getD j 0 < bdw m1 m2 j
theorem rngW_ev {m1 m2 : Int} {xs : List Int} (h : RngW m1 m2 xs) {i : Nat} (i1 : i ≤ 1) : Rng (bdw m1 m2 i) (ev2 xs i) := by
  intro x hx
  unfold ev2 at hx
  obtain ⟨j, hj, rfl⟩ := List.mem_map.mp hx
  have hj := List.mem_range.mp hj
  have := h (i + 2 * j) (by omega)
  have e : bdw m1 m2 (i + 2 * j) = bdw m1 m2 i := by unfold bdw; rw [Nat.add_mul_mod_self_left]
  rw [e] at this
  exact this
theorem rngW_or_bad (m1 m2 : Int) (xs : List Int) : RngW m1 m2 xs ∨ ∃ i, FirstBadW m1 m2 xs i := by
  have : ∀ k, k ≤ xs.length → (∀ j, j < k → 0 ≤ xs.getD j 0 ∧ xs.getD j 0 < bdw m1 m2 j) ∨ ∃ i, FirstBadW m1 m2 xs i := by
    intro k
    induction k with
    | zero => exact fun _ => .inl fun j hj => absurd hj (Nat.not_lt_zero _)
    | succ k ih =>
      intro hk
      rcases ih (by omega) with h | h
      · by_cases b : 0 ≤ xs.getD k 0 ∧ xs.getD k 0 < bdw m1 m2 k
        · refine .inl fun j hj => ?_
          by_cases e : j = k
          · rw [e]; exact b
          · exact h j (by omega)
        · exact .inr ⟨k, by omega, b, h⟩
      · exact .inr h
  exact this xs.length (Nat.le_refl _)
def pUnw (K : PySem.W.Frag) (CN : Addr) : V → V → V → Hp → VK → XK → Prop := fun a b c H Q E => ∃ (r : Addr) (xs : List Int) (m1 m2 : Int), a = .ref r ∧ b = .int m1 ∧ c = .int m2 ∧ SqT K H r (xs.map V.int) ∧ 1 ≤ m1 ∧ m1 ≤ 1000000000000 ∧ 1 ≤ m2 ∧ m2 ≤ 1000000000000 ∧ 1 ≤ xs.length ∧ xs.length ≤ 1000 ∧
  (RngW m1 m2 xs → ∀ H' q v1 v2, Same H H' → H q = none → H' q = some (.tup [v1, v2]) → FitV m1 (ev2 xs 0) ((ev2 xs 0).length - 2) H' v1 → FitV m2 (ev2 xs 1) ((ev2 xs 1).length - 2) H' v2 → Q (.ref q) H') ∧ (∀ i, FirstBadW m1 m2 xs i → ∀ H', Same H H' → Bad CN (xs.getD i 0) H' E)
/-- alike: both None, or tuples of the same whole numbers -/
def Alk (H : Hp) (v u : V) : Prop := (v = .non ∧ u = .non) ∨ ∃ (a b : Addr) (xs : List Int), v = .ref a ∧ u = .ref b ∧ H a = some (.tup (xs.map V.int)) ∧ H b = some (.tup (xs.map V.int))
theorem Alk.same {H H' : Hp} {v u : V} (h : Alk H v u) (s : Same H H') : Alk H' v u := by
  rcases h with h | ⟨a, b, xs, e1, e2, h1, h2⟩
  · exact .inl h
  · exact .inr ⟨a, b, xs, e1, e2, s _ _ h1, s _ _ h2⟩
theorem FitV.alk {m : Int} {xs : List Int} {j : Nat} {H : Hp} {v u : V} (a : FitV m xs j H v) (b : FitV m xs j H u) : Alk H v u := by
  rcases a.two b with h | ⟨q, p, l, s, e1, e2, h1, h2, _⟩
  · exact .inl h
  · exact .inr ⟨q, p, [l, s], e1, e2, h1, h2⟩
def pSameF : V → V → Hp → VK → XK → Prop := fun a b H Q _ => ∃ (p q : Addr) (v1 v2 u1 u2 : V), a = .ref p ∧ b = .ref q ∧ H p = some (.tup [v1, v2]) ∧ H q = some (.tup [u1, u2]) ∧ Alk H v1 u1 ∧ Alk H v2 u2 ∧ ∀ H', Same H H' → Q (.bl true) H'
def pSp25 (K : PySem.W.Frag) : V → V → V → Hp → VK → XK → Prop := fun a b c H Q _ => ∃ (d r lb : Addr) (n : Nat) (m1 m2 : Int) (xs : List Int), a = .ref d ∧ b = .ref r ∧ c = .ref lb ∧ DeckB H d n ∧ n + 20 ≤ 100000000 ∧ SqT K H r (xs.map V.int) ∧ H lb = some (.lst [.int m1, .int m2]) ∧ 1 ≤ m1 ∧ m1 ≤ 1000000000000 ∧ 1 ≤ m2 ∧ m2 ≤ 1000000000000 ∧ 4 ≤ xs.length ∧ xs.length ≤ 60 ∧
  ∀ H' q (zs : List Int), But d H H' → DeckB H' d (n + 20) → H q = none → H' q = some (.tup (zs.map V.int)) → zs.length = xs.length → Q (.ref q) H'
def pRight25 (K : PySem.W.Frag) : V → V → Hp → VK → XK → Prop := fun a b H Q _ => ∃ (r lb : Addr) (m1 m2 : Int) (xs : List Int), a = .ref r ∧ b = .ref lb ∧ SqT K H r (xs.map V.int) ∧ H lb = some (.lst [.int m1, .int m2]) ∧ 1 ≤ m1 ∧ m1 ≤ 1000000000000 ∧ 1 ≤ m2 ∧ m2 ≤ 1000000000000 ∧ 4 ≤ xs.length ∧ xs.length ≤ 60 ∧ ∀ H', Same H H' → Q (.bl true) H'
theorem mul_abs {a b A B : Int} (a1 : -A ≤ a) (a2 : a ≤ A) (b1 : -B ≤ b) (b2 : b ≤ B) : -(A * B) ≤ a * b ∧ a * b ≤ A * B := by
  have h : a.natAbs * b.natAbs ≤ A.natAbs * B.natAbs := Nat.mul_le_mul (by omega) (by omega)
  rw [← Int.natAbs_mul, ← Int.natAbs_mul] at h
  have : 0 ≤ A * B := Int.mul_nonneg (by omega) (by omega)
  omega
theorem div_abs {a d A : Int} (d0 : 0 < d) (a1 : -A ≤ a) (a2 : a ≤ A) : -A ≤ a / d ∧ a / d ≤ A := by
  have h0 : 0 ≤ A := by omega
  have h1 : A * 1 ≤ A * d := Int.mul_le_mul_of_nonneg_left (by omega) h0
  have h2 : -A * d = -(A * d) := by grind
  exact ⟨Int.le_ediv_of_mul_le d0 (by omega), Int.ediv_le_of_le_mul d0 (by omega)⟩
theorem gcd_ab (x m : Int) : Int.gcd (ab x) m = Int.gcd x m := by
  show Nat.gcd (ab x).natAbs m.natAbs = Nat.gcd x.natAbs m.natAbs
  rw [ab_nat]
theorem fit_own_none {m l st : Int} {xs : List Int} {k : Nat} (m0 : 0 < m) (F : FitR m xs k (some (l, st))) (hn : (gat xs (k + 1) - l * gat xs k) % (Int.gcd (st * gat xs k) m : Nat) ≠ 0) : FitR m xs (k + 1) none := by
  refine fit_none m0 F (fun z => hn ?_)
  rw [gcd_red] at z
  obtain ⟨c, hc⟩ : ((Int.gcd (st * gat xs k) m : Nat) : Int) ∣ m := Int.gcd_dvd_right ..
  obtain ⟨e, he⟩ := Int.dvd_of_emod_eq_zero z
  refine Int.emod_eq_zero_of_dvd ⟨e + c * (gat xs (k + 1) / m - l * gat xs k / m), ?_⟩
  have h1 := Int.mul_ediv_add_emod (gat xs (k + 1)) m
  have h2 := Int.mul_ediv_add_emod (l * gat xs k) m
  generalize ((Int.gcd (st * gat xs k) m : Nat) : Int) = d at *
  generalize gat xs (k + 1) / m = q1 at *
  generalize l * gat xs k / m = q2 at *
  rw [← h1, ← h2, Int.mul_add, ← he, ← Int.mul_assoc, ← hc]
  grind
theorem fit_own {m l st v : Int} {xs : List Int} {k : Nat} (m0 : 0 < m) (F : FitR m xs k (some (l, st))) (hd : (gat xs (k + 1) - l * gat xs k) % (Int.gcd (st * gat xs k) m : Nat) = 0)
    (hv : st * gat xs k / (Int.gcd (st * gat xs k) m : Nat) * v % (m / (Int.gcd (st * gat xs k) m : Nat)) = 1 % (m / (Int.gcd (st * gat xs k) m : Nat))) :
    FitR m xs (k + 1) (some (l + st * ((gat xs (k + 1) - l * gat xs k) / (Int.gcd (st * gat xs k) m : Nat) * v % (m / (Int.gcd (st * gat xs k) m : Nat))), st * (m / (Int.gcd (st * gat xs k) m : Nat)))) := by
  obtain ⟨e1, e2, e3, _⟩ := gcd_parts (t := st * gat xs k) m0
  have xb := mod_bd ((gat xs (k + 1) - l * gat xs k) / (Int.gcd (st * gat xs k) m : Nat) * v) e3
  have B : Bef (st * gat xs k % m) (l * gat xs k % m) m (gat xs (k + 1) % m) ((gat xs (k + 1) - l * gat xs k) / (Int.gcd (st * gat xs k) m : Nat) * v % (m / (Int.gcd (st * gat xs k) m : Nat))) := by
    refine ⟨xb.1, by rw [gcd_red]; exact xb.2, ?_⟩
    refine Int.emod_eq_emod_iff_emod_sub_eq_zero.mpr (Int.emod_eq_zero_of_dvd ?_)
    have h1 := Int.mul_ediv_add_emod (st * gat xs k) m
    have h2 := Int.mul_ediv_add_emod (l * gat xs k) m
    have hD : gat xs (k + 1) - l * gat xs k = (Int.gcd (st * gat xs k) m : Nat) * ((gat xs (k + 1) - l * gat xs k) / (Int.gcd (st * gat xs k) m : Nat)) := (Int.mul_ediv_cancel' (Int.dvd_of_emod_eq_zero hd)).symm
    have h3 := Int.mul_ediv_add_emod ((gat xs (k + 1) - l * gat xs k) / (Int.gcd (st * gat xs k) m : Nat) * v) (m / (Int.gcd (st * gat xs k) m : Nat))
    obtain ⟨c, hc⟩ := Int.dvd_of_emod_eq_zero (Int.emod_eq_emod_iff_emod_sub_eq_zero.mp hv)
    generalize hx : (gat xs (k + 1) - l * gat xs k) / (Int.gcd (st * gat xs k) m : Nat) * v % (m / (Int.gcd (st * gat xs k) m : Nat)) = x at *
    generalize (gat xs (k + 1) - l * gat xs k) / (Int.gcd (st * gat xs k) m : Nat) * v / (m / (Int.gcd (st * gat xs k) m : Nat)) = q3 at *
    generalize (gat xs (k + 1) - l * gat xs k) / (Int.gcd (st * gat xs k) m : Nat) = D at *
    generalize st * gat xs k / (Int.gcd (st * gat xs k) m : Nat) = G at *
    generalize hL : m / (Int.gcd (st * gat xs k) m : Nat) = L at *
    generalize ((Int.gcd (st * gat xs k) m : Nat) : Int) = d at *
    generalize st * gat xs k % m = r1 at *
    generalize l * gat xs k % m = r2 at *
    generalize st * gat xs k / m = q1 at *
    generalize l * gat xs k / m = q2 at *
    refine ⟨D * c - G * q3 - q1 * x - q2, ?_⟩
    have f1 : r1 = d * G - m * q1 := by omega
    have f2 : r2 - gat xs (k + 1) = -(d * D) - m * q2 := by omega
    have f3 : x = D * v - L * q3 := by omega
    have f4 : G * v = 1 + L * c := by omega
    have f5 : r1 * x + r2 - gat xs (k + 1) = r1 * x + (r2 - gat xs (k + 1)) := by omega
    rw [f5, f2, f1]
    have f6 : d * G * x = d * D + m * (D * c) - m * (G * q3) := by
      have g1 : G * x = D + L * (D * c) - L * (G * q3) := by
        rw [f3]
        have : G * (D * v - L * q3) = D * (G * v) - L * (G * q3) := by grind
        rw [this, f4]
        grind
      have g2 : d * G * x = d * (G * x) := by grind
      rw [g2, g1]
      have g3 : d * (D + L * (D * c) - L * (G * q3)) = d * D + d * L * (D * c) - d * L * (G * q3) := by grind
      rw [g3, ← e2]
    have f7 : (d * G - m * q1) * x = d * G * x - m * (q1 * x) := by grind
    rw [f7, f6]
    grind
  have := fit_some m0 F B
  rw [gcd_red, Int.mul_comm _ st, Int.mul_comm _ st] at this
  exact this
theorem shift_iff {f : Int → Int} {xs : List Int} : (xs.map f).dropLast = xs.drop 1 ↔ ∀ i, i < xs.length - 1 → f (xs.getD i 0) = xs.getD (i + 1) 0 := by
  constructor
  · intro h i hi
    have e := congrArg (fun l => l[i]?) h
    simp only [List.getElem?_drop] at e
    rw [List.getElem?_dropLast, List.length_map, if_pos hi, List.getElem?_map, List.getElem?_eq_getElem (by omega), Nat.add_comm 1 i, List.getElem?_eq_getElem (show i + 1 < xs.length by omega)] at e
    rw [get_D (List.getElem?_eq_getElem (show i < xs.length by omega)), get_D (List.getElem?_eq_getElem (show i + 1 < xs.length by omega))]
    exact Option.some.inj e
  · intro h
    refine List.ext_getElem? fun i => ?_
    rw [List.getElem?_drop, List.getElem?_dropLast, List.length_map]
    by_cases hi : i < xs.length - 1
    · rw [if_pos hi, List.getElem?_map, List.getElem?_eq_getElem (by omega), Nat.add_comm 1 i, List.getElem?_eq_getElem (show i + 1 < xs.length by omega)]
      have := h i hi
      rw [get_D (List.getElem?_eq_getElem (show i < xs.length by omega)), get_D (List.getElem?_eq_getElem (show i + 1 < xs.length by omega))] at this
      show some _ = some _
      rw [this]
    · rw [if_neg hi, List.getElem?_eq_none (by omega)]
/-- the numbers that are none of their row's bound, of the first j -/
def Wrg (m1 m2 : Int) (xs : List Int) (j : Nat) (ws : List Int) : Prop := (ws = [] ∧ ∀ i, i < j → 0 ≤ xs.getD i 0 ∧ xs.getD i 0 < bdw m1 m2 i) ∨ ∃ i t, FirstBadW m1 m2 xs i ∧ i < j ∧ ws = xs.getD i 0 :: t
theorem Wrg.zero {m1 m2 : Int} {xs : List Int} : Wrg m1 m2 xs 0 [] := .inl ⟨rfl, fun i hi => absurd hi (Nat.not_lt_zero _)⟩
theorem Wrg.good {m1 m2 : Int} {xs ws : List Int} {j : Nat} (h : Wrg m1 m2 xs j ws) (g : 0 ≤ xs.getD j 0 ∧ xs.getD j 0 < bdw m1 m2 j) : Wrg m1 m2 xs (j + 1) ws := by
  rcases h with ⟨e, h⟩ | ⟨i, t, f, l, e⟩
  · refine .inl ⟨e, fun i hi => ?_⟩
    by_cases c : i = j
    · rw [c]; exact g
    · exact h i (by omega)
  · exact .inr ⟨i, t, f, by omega, e⟩
theorem Wrg.bad {m1 m2 : Int} {xs ws : List Int} {j : Nat} (h : Wrg m1 m2 xs j ws) (l : j < xs.length) (g : ¬ (0 ≤ xs.getD j 0 ∧ xs.getD j 0 < bdw m1 m2 j)) : Wrg m1 m2 xs (j + 1) (ws ++ [xs.getD j 0]) := by
  rcases h with ⟨e, h⟩ | ⟨i, t, f, l', e⟩
  · exact .inr ⟨j, [], ⟨l, g, h⟩, by omega, by rw [e]; rfl⟩
  · exact .inr ⟨i, t ++ [xs.getD j 0], f, by omega, by rw [e]; rfl⟩
theorem FirstBadW.uniq {m1 m2 : Int} {xs : List Int} {i j : Nat} (a : FirstBadW m1 m2 xs i) (b : FirstBadW m1 m2 xs j) : i = j := by
  by_cases h : i < j
  · exact absurd (b.2.2 i h) a.2.1
  · by_cases h2 : j < i
    · exact absurd (a.2.2 j h2) b.2.1
    · omega
theorem FirstBadW.no {m1 m2 : Int} {xs : List Int} {i : Nat} (a : FirstBadW m1 m2 xs i) (h : RngW m1 m2 xs) : False := a.2.1 (h i a.1)
theorem bdw_at (m1 m2 : Int) (j : Nat) : atI [V.int m1, V.int m2] ((j : Int) % 2) = some (.int (bdw m1 m2 j)) := by
  unfold bdw
  by_cases h : j % 2 = 0
  · rw [if_pos h, show (j : Int) % 2 = ((0 : Nat) : Int) by omega]
    exact atI_nat rfl
  · rw [if_neg h, show (j : Int) % 2 = ((1 : Nat) : Int) by omega]
    exact atI_nat rfl
theorem cut_last (xs : List Int) : cutV (xs.map V.int) none (some (-1)) = xs.dropLast.map V.int := by
  unfold cutV
  rw [HT.sIx_none, List.length_map]
  have e : HT.sIx xs.length xs.length (some (-1)) = xs.length - 1 := by
    show (if (-1 : Int) < 0 then ((-1 : Int) + (xs.length : Int)).toNat else min (-1 : Int).toNat xs.length) = _
    rw [if_pos (by decide)]
    omega
  rw [e, List.drop_zero, List.dropLast_eq_take, List.map_take, Nat.sub_zero]
/-- a row of four to sixty numbers at q -/
def RowOk (H : Hp) (q : Addr) : Prop := ∃ zs : List Int, H q = some (.tup (zs.map V.int)) ∧ 4 ≤ zs.length ∧ zs.length ≤ 60
theorem RowOk.same {H H' : Hp} {q : Addr} (h : RowOk H q) (s : Same H H') : RowOk H' q := by
  obtain ⟨zs, e, l⟩ := h
  exact ⟨zs, s _ _ e, l⟩
theorem RowOk.but {H H' : Hp} {d q : Addr} {n : Nat} (h : RowOk H q) (D : DeckB H d n) (b : But d H H') : RowOk H' q := by
  obtain ⟨zs, e, l⟩ := h
  exact ⟨zs, b _ _ (D.ne_tup e) e, l⟩
theorem wv_rngW {t1 p1 m1 t2 p2 m2 x y : Int} (m0 : 0 < m1) (n0 : 0 < m2) (hx : 0 ≤ x ∧ x < m1) (hy : 0 ≤ y ∧ y < m2) (n : Nat) : RngW m1 m2 (wv (stp t1 p1 m1) (stp t2 p2 m2) x y n) := by
  intro i hi
  rw [wv_len] at hi
  have e : (wv (stp t1 p1 m1) (stp t2 p2 m2) x y n).getD i 0 = wvA (stp t1 p1 m1) (stp t2 p2 m2) x y i := by
    unfold wv
    rw [List.getD_eq_getElem?_getD, List.getElem?_map, List.getElem?_range hi]
    rfl
  rw [e]
  unfold wvA bdw
  by_cases c : i % 2 = 0
  · rw [if_pos c, if_pos c]
    exact itr_rng m0 hx _
  · rw [if_neg c, if_neg c]
    exact itr_rng n0 hy _
def rl3 (t1 p1 m1 t2 p2 m2 : Int) (k : Nat) : Int := if k = 0 then m1 else m2
def rlo (t1 p1 m1 t2 p2 m2 : Int) (k : Nat) (x : Int) : List Int := if k = 0 then orb (stp t1 p1 m1) 30 x else orb (stp t2 p2 m2) 30 x
theorem rlo_len (t1 p1 m1 t2 p2 m2 : Int) (k : Nat) (x : Int) : (rlo t1 p1 m1 t2 p2 m2 k x).length = 30 := by
  unfold rlo
  split <;> exact orb_len ..
theorem refs_ints {qs : List Addr} {t1 p1 m1 t2 p2 m2 x : Int} {k : Nat} (h : some (HO.lst (qs.map V.ref)) = some (.lst ((rlo t1 p1 m1 t2 p2 m2 k x).map V.int))) : False := by
  have e := rlo_len t1 p1 m1 t2 p2 m2 k x
  injection h with h
  injection h with h
  cases qs with
  | nil =>
    have := congrArg List.length h
    rw [List.length_map, List.length_map, e] at this
    cases this
  | cons a t =>
    cases hr : rlo t1 p1 m1 t2 p2 m2 k x with
    | nil => rw [hr] at e; cases e
    | cons b u => rw [hr] at h; cases h
theorem deck_orb {g y k' t1 p1 m1 t2 p2 m2 x : Int} {k : Nat} (h : some (HO.lst [.int g, .int y, .int k']) = some (.lst ((rlo t1 p1 m1 t2 p2 m2 k x).map V.int))) : False := by
  have e := rlo_len t1 p1 m1 t2 p2 m2 k x
  injection h with h
  injection h with h
  have := congrArg List.length h
  rw [List.length_map, e] at this
  cases this
def pTurned : V → V → Hp → VK → XK → Prop := fun a b H Q _ => ∃ x m : Int, a = .int x ∧ b = .int m ∧ 0 < m ∧ m ≤ 1000000000000 ∧ Int.gcd x m = 1 ∧ ∀ H' v, Same H H' → 0 ≤ v → v < m → x * v % m = 1 % m → Q (.int v) H'
end Tw

/-! Four and five names turned about; data that are the same. -/
namespace Tw
open PySem PySem.Spec PyProof.Rows L2
def g4 {α : Type} : List α → List α → List α
  | [], [a, b, c, d] => [d, c, b, a]
  | _, _ => []
def g5 {α : Type} : List α → List α → List α
  | [], [a, b, c, d, e] => [e, d, c, b, a]
  | _, _ => []
theorem g4_inv {α : Type} {us ws : List α} (h : (g4 us ws).length = 4) : ∃ a b c d, us = [] ∧ ws = [a, b, c, d] := by
  unfold g4 at h
  split at h
  · exact ⟨_, _, _, _, rfl, rfl⟩
  · cases h
theorem g5_inv {α : Type} {us ws : List α} (h : (g5 us ws).length = 5) : ∃ a b c d e, us = [] ∧ ws = [a, b, c, d, e] := by
  unfold g5 at h
  split at h
  · exact ⟨_, _, _, _, _, rfl, rfl⟩
  · cases h
theorem g4_rel {vs : List V} {us : List Value} {zs : List V} {ws : List Value} (a : Vals vs us) (b : Vals zs ws) : Vals (g4 vs zs) (g4 us ws) := by
  cases a with
  | nil =>
    cases b with
    | nil => exact .nil
    | cons r1 t1 =>
      cases t1 with
      | nil => exact .nil
      | cons r2 t2 =>
        cases t2 with
        | nil => exact .nil
        | cons r3 t3 =>
          cases t3 with
          | nil => exact .nil
          | cons r4 t4 =>
            cases t4 with
            | nil => exact .cons r4 (.cons r3 (.cons r2 (.cons r1 .nil)))
            | cons r5 t5 => exact .nil
  | cons r t => exact .nil
theorem g5_rel {vs : List V} {us : List Value} {zs : List V} {ws : List Value} (a : Vals vs us) (b : Vals zs ws) : Vals (g5 vs zs) (g5 us ws) := by
  cases a with
  | nil =>
    cases b with
    | nil => exact .nil
    | cons r1 t1 =>
      cases t1 with
      | nil => exact .nil
      | cons r2 t2 =>
        cases t2 with
        | nil => exact .nil
        | cons r3 t3 =>
          cases t3 with
          | nil => exact .nil
          | cons r4 t4 =>
            cases t4 with
            | nil => exact .nil
            | cons r5 t5 =>
              cases t5 with
              | nil => exact .cons r5 (.cons r4 (.cons r3 (.cons r2 (.cons r1 .nil))))
              | cons r6 t6 => exact .nil
  | cons r t => exact .nil
/-- the same data, few levels deep -/
def AlkD (K : PySem.W.Frag) (H : Hp) (u v : V) : Prop := ∃ d, Dp K H u d ∧ Dp K H v d ∧ PyData.canLay0 d = true ∧ PyData.depth d ≤ 60
theorem AlkD.shp {K : PySem.W.Frag} {H : Hp} {u v : V} (h : AlkD K H u v) : ∃ d, Dp K H u d ∧ Dp K H v d ∧ SeqAt.shaped d = true := by
  obtain ⟨d, a, b, c, e⟩ := h
  refine ⟨d, a, b, ?_⟩
  show (d.canLay0 && decide (d.depth ≤ 64)) = true
  rw [c, decide_eq_true (by omega)]
  rfl
theorem AlkD.int {K : PySem.W.Frag} {H : Hp} (n : Int) : AlkD K H (.int n) (.int n) := ⟨_, .int n, .int n, rfl, by show 0 ≤ 60; decide⟩
theorem AlkD.non {K : PySem.W.Frag} {H : Hp} : AlkD K H .non .non := ⟨_, .non, .non, rfl, by show 0 ≤ 60; decide⟩
theorem AlkD.tup {K : PySem.W.Frag} {H : Hp} {a b : Addr} {xs : List Int} (ha : H a = some (.tup (xs.map V.int))) (hb : H b = some (.tup (xs.map V.int))) : AlkD K H (.ref a) (.ref b) := by
  obtain ⟨h1, h2⟩ := lay_ints xs
  exact ⟨_, .tup (SqT.of ha) (dp_ints xs), .tup (SqT.of hb) (dp_ints xs), h1, by show PyData.depthAll (xs.map PyData.int) + 1 ≤ 60; omega⟩
theorem AlkD.two {K : PySem.W.Frag} {H : Hp} {a b : Addr} {u1 u2 v1 v2 : V} (ha : H a = some (.tup [u1, u2])) (hb : H b = some (.tup [v1, v2])) (h1 : ∃ d, Dp K H u1 d ∧ Dp K H v1 d ∧ PyData.canLay0 d = true ∧ PyData.depth d ≤ 50) (h2 : ∃ d, Dp K H u2 d ∧ Dp K H v2 d ∧ PyData.canLay0 d = true ∧ PyData.depth d ≤ 50) : AlkD K H (.ref a) (.ref b) := by
  obtain ⟨d, d1, d2, d3, d4⟩ := h1
  obtain ⟨e, e1, e2, e3, e4⟩ := h2
  refine ⟨.tuple [d, e], .tup (SqT.of ha) (.cons d1 (.cons e1 .nil)), .tup (SqT.of hb) (.cons d2 (.cons e2 .nil)), ?_, ?_⟩
  · show (PyData.canLay0 d && (PyData.canLay0 e && true)) = true
    rw [d3, e3]
    rfl
  · show max (PyData.depth d) (max (PyData.depth e) 0) + 1 ≤ 60
    omega
theorem alk_in {K : PySem.W.Frag} {H : Hp} {u v : V} (h : Alk H u v) : ∃ d, Dp K H u d ∧ Dp K H v d ∧ PyData.canLay0 d = true ∧ PyData.depth d ≤ 50 := by
  rcases h with ⟨rfl, rfl⟩ | ⟨a, b, xs, rfl, rfl, ha, hb⟩
  · exact ⟨_, .non, .non, rfl, by show 0 ≤ 50; decide⟩
  · obtain ⟨h1, h2⟩ := lay_ints xs
    exact ⟨_, .tup (SqT.of ha) (dp_ints xs), .tup (SqT.of hb) (dp_ints xs), h1, by show PyData.depthAll (xs.map PyData.int) + 1 ≤ 50; omega⟩
theorem alk_fst {H : Hp} {u v : V} {ts : List (List Int)} (a : Fst H u ts) (b : Fst H v ts) : Alk H u v := by
  rcases a with ⟨e, rfl⟩ | ⟨x, z, us, e, rfl, hx⟩
  · rcases b with ⟨_, rfl⟩ | ⟨y, z', us', e', _⟩
    · exact .inl ⟨rfl, rfl⟩
    · rw [e] at e'; cases e'
  · rcases b with ⟨e', rfl⟩ | ⟨y, z', us', e', rfl, hy⟩
    · rw [e] at e'; cases e'
    · rw [e] at e'
      cases e'
      exact .inr ⟨_, _, z, rfl, rfl, hx, hy⟩
theorem alk_pv {K : PySem.W.Frag} {H : Hp} {u v : V} {r : Option (Int × Int)} (a : PV H u r) (b : PV H v r) : AlkD K H u v := by
  rcases r with _ | ⟨x, y⟩
  · cases a; cases b; exact .non
  · obtain ⟨p, rfl, hp⟩ := a
    obtain ⟨q, rfl, hq⟩ := b
    exact .tup (xs := [x, y]) hp hq
theorem ne_alk {K : PySem.W.Frag} {H : Hp} {u v : V} {Q : VK} (h : AlkD K H u v) (q : Q (.bl false) H) : rNeD K u v H Q := by
  obtain ⟨d, a, b, s⟩ := h.shp
  refine ⟨d, d, a, b, s, s, ?_⟩
  rw [eqv_self s]
  exact q
theorem eq_alk {K : PySem.W.Frag} {H : Hp} {u v : V} {Q : VK} (h : AlkD K H u v) (q : Q (.bl true) H) : rEqD K u v H Q := by
  obtain ⟨d, a, b, s⟩ := h.shp
  refine ⟨d, d, a, b, s, s, ?_⟩
  rw [eqv_self s]
  exact q
end Tw

/-! Starts that show a row of parts, and settled starts. -/
namespace Tw
open PySem PySem.Spec PyProof.Rows L2
theorem prts_gD {t p m pt s : Int} {n i : Nat} (hi : i < n) : (prts t p m n s pt).getD i 0 = itr (stp t p m) i s / pt := by
  unfold prts
  rw [List.getD_eq_getElem?_getD, List.getElem?_map, orb_gt _ _ hi]
  rfl
theorem shB_any {t p t' p' m pt s y : Int} {n : Nat} : shB t' p' m pt (prts t p m n s pt) y = true ↔ ∀ i, i < n → itr (stp t' p' m) i y / pt = itr (stp t p m) i s / pt := by
  unfold shB
  rw [decide_eq_true_iff, prts_len]
  constructor
  · intro h i hi
    rw [h i hi, prts_gD hi]
  · intro h i hi
    rw [h i hi, prts_gD hi]
theorem mem_stAny {t p t' p' m pt s y : Int} {n : Nat} : y ∈ stL t' p' m pt (prts t p m n s pt) ↔ 0 ≤ y ∧ y < m ∧ ∀ i, i < n → itr (stp t' p' m) i y / pt = itr (stp t p m) i s / pt := by
  unfold stL
  rw [List.mem_filter, List.mem_map, shB_any]
  constructor
  · rintro ⟨⟨k, hk, rfl⟩, h⟩
    have hk := List.mem_range.mp hk
    exact ⟨by omega, by omega, h⟩
  · rintro ⟨y0, y1, h⟩
    exact ⟨⟨y.toNat, List.mem_range.mpr (by omega), by omega⟩, h⟩
theorem mem_st {t p m pt s y : Int} {n : Nat} : y ∈ stL t p m pt (prts t p m n s pt) ↔ 0 ≤ y ∧ y < m ∧ EqK (stp t p m) pt n s y := by
  rw [mem_stAny]
  exact ⟨fun ⟨a, b, h⟩ => ⟨a, b, fun i hi => (h i hi).symm⟩, fun ⟨a, b, h⟩ => ⟨a, b, fun i hi => (h i hi).symm⟩⟩
theorem stL_sorted (t p m pt : Int) (ks : List Int) : (stL t p m pt ks).Pairwise (· < ·) := by
  unfold stL
  refine List.Pairwise.filter _ (List.pairwise_map.mpr ?_)
  exact List.pairwise_lt_range.imp (fun h => by omega)
theorem one_list {l : List Int} {s : Int} (h : l.Pairwise (· < ·)) (hs : s ∈ l) (all : ∀ y ∈ l, y = s) : l = [s] := by
  cases l with
  | nil => cases hs
  | cons a l =>
    have ea := all a (.head _)
    cases l with
    | nil => rw [ea]
    | cons b l =>
      have hb := all b (.tail _ (.head _))
      have := (List.pairwise_cons.mp h).1 b (.head _)
      omega
theorem two_list {l : List Int} {s y : Int} (hs : s ∈ l) (hy : y ∈ l) (ne : y ≠ s) : 1 < l.length := by
  cases l with
  | nil => cases hs
  | cons a l =>
    cases l with
    | nil =>
      simp at hs hy
      exact absurd (hy.trans hs.symm) ne
    | cons b l => simp
theorem st_own {t p m pt s : Int} {n : Nat} (s0 : 0 ≤ s) (s1 : s < m) : s ∈ stL t p m pt (prts t p m n s pt) := mem_st.mpr ⟨s0, s1, fun _ _ => rfl⟩
theorem st_alone {t p m pt s : Int} {n : Nat} (s0 : 0 ≤ s) (s1 : s < m) (h : Alone (stp t p m) pt m s n) : stL t p m pt (prts t p m n s pt) = [s] :=
  one_list (stL_sorted ..) (st_own s0 s1) fun y hy => by
    obtain ⟨a, b, e⟩ := mem_st.mp hy
    exact h y a b e
theorem st_more {t p m pt s : Int} {n : Nat} (s0 : 0 ≤ s) (s1 : s < m) (h : ¬ Alone (stp t p m) pt m s n) : 1 < (stL t p m pt (prts t p m n s pt)).length :=
  Classical.byContradiction fun c => h fun y y0 y1 e => Classical.byContradiction fun ne => c (two_list (st_own s0 s1) (mem_st.mpr ⟨y0, y1, e⟩) ne)
theorem prts_last {t p m pt s : Int} {n : Nat} : (prts t p m (n + 1) s pt).dropLast = prts t p m n s pt := by
  unfold prts
  rw [orb_succ, List.map_append]
  exact List.dropLast_concat
theorem prts_cons {t p m pt s : Int} {n : Nat} : prts t p m (n + 1) s pt = s / pt :: prts t p m n (stp t p m s) pt := by
  unfold prts
  rw [orb_cons]
  rfl
theorem st_anti {t p t' p' m pt s : Int} {j n : Nat} (l : j ≤ n) : (stL t' p' m pt (prts t p m n s pt)).length ≤ (stL t' p' m pt (prts t p m j s pt)).length := by
  unfold stL
  rw [← List.countP_eq_length_filter, ← List.countP_eq_length_filter]
  exact List.countP_mono_left fun x _ h => shB_any.mpr fun i hi => shB_any.mp h i (by omega)
/-- alone by k parts, so by more -/
theorem alone_mono {f : Int → Int} {pt m s : Int} {j k : Nat} (h : Alone f pt m s j) (l : j ≤ k) : Alone f pt m s k := fun y y0 y1 e => h y y0 y1 (eqK_mono e l)
theorem apar_alone {f : Int → Int} {pt m : Int} {k : Nat} : Apar f pt m k ↔ ∀ s, 0 ≤ s → s < m → Alone f pt m s k :=
  ⟨fun h s s0 s1 y y0 y1 e => (h s y s0 s1 y0 y1 e).symm, fun h x y x0 x1 y0 y1 e => (h x x0 x1 y y0 y1 e).symm⟩
end Tw

/-! X(number = v): the own initialiser reached by a keyword. -/
namespace Tw
open PySem PySem.Spec L2
section
variable {prog : Program} {w : World} {M : Model} {A : Around} {E : Value → Shared → Prop} {R : Result → Shared → Prop} {h : Heap} {gs : Array GenState} {dr : Drawn} {tk : Nat} {os : OsState}
variable {nm q : Str} {C N fI : Addr} {bs bm bmB : List Value} {hdct : Bool} {sn : List Str} {sub : List Value} {ab : Bool} {col : Option Bool} {dd : Option Addr} {k0 k1 k2 k3 k5 : Option Value} {v : Value} {B newId initId : String}
abbrev kwN (v : Value) : List (Str × Value) := [("number", v)]
theorem chkNew {Q : Unit → Shared → Prop} (hT : ∀ Y : String, bm.contains (.type Y) = bmB.contains (.type Y)) (F : ExcBaseFacts B newId initId bmB)
    (hC : h.get? C = some (excClassObj nm q C N bs bm hdct sn sub ab col dd k0 k1 k2 k3 k5 newId)) (y : Q () ⟨h, gs, dr, tk, os⟩) :
    wpAny M A (checkBuiltinCall newId ⟨[.ref C], kwN v⟩) Q E ⟨h, gs, dr, tk, os⟩ := by
  have inB : (Value.ref C :: bm).contains (.type B) = true := by
    rw [List.contains_cons, hT, F.hasB]
    exact Bool.or_true _
  have _star := F.noStar
  simp only [checkBuiltinCall, F.newKind, F.newSplit, F.newRow]
  repeat (first
    | refine wpAny_loadPart_at hC ?_
    | (refine wpAny_isSubtype_exc hC ?_; rw [inB])
    | refine wpAny_staticBase_exc hC ?_
    | refine wpAny_madeBy_exc hC ?_
    | simp only [bne_self_eq_false, Bool.false_eq_true, if_false]
    | wp_step)
  exact y
theorem newKw (hT : ∀ Y : String, bm.contains (.type Y) = bmB.contains (.type Y)) (F : ExcBaseFacts B newId initId bmB)
    (hC : h.get? C = some (excClassObj nm q C N bs bm hdct sn sub ab col dd k0 k1 k2 k3 k5 newId))
    (y : R (.ok (.ret (.ref (h.objs.size + 1)))) ⟨(h.push (PySem.W.kdv_tup [])).push (PySem.HandSPX.excO C h.objs.size), gs, dr, tk, os⟩) :
    codeAny (model prog w) A (.builtin newId ⟨[.ref C], kwN v⟩) R ⟨h, gs, dr, tk, os⟩ := by
  have _ends := F.ends
  have cB : (Value.ref C :: bm).contains (.type B) = true := by
    rw [List.contains_cons, hT, F.hasB]
    exact Bool.or_true _
  have cA : (Value.ref C :: bm).contains (.type "AttributeError") = false := by
    rw [List.contains_cons, hT, F.noAttr]
    rfl
  have cN : (Value.ref C :: bm).contains (.type "NameError") = false := by
    rw [List.contains_cons, hT, F.noName]
    rfl
  refine codeAny_builtinAt F.entry ?_
  unfold Builtin.«BaseException.__new__»
  refine PySem.wpAt_bind ?_
  show PySem.wpAt _ _ _ (stack >>= _) _ _ _
  refine PySem.wpAt_bind (PySem.wpAt_stack fun p below => PySem.wpAt_of_wpAny ?_)
  wp_walk
  refine PySem.wpAt_of_wpAny ?_
  rw [F.owner]
  repeat (first
    | with_reducible refine wpAny_madeHere_exc F.canon hC ?_
    | with_reducible refine wpAny_loadPart_at hC ?_
    | (with_reducible refine wpAny_isSubtype_exc hC ?_; first | rw [cB] | rw [cA] | rw [cN])
    | wp_step)
  show R _ _
  rw [Heap.size_push]
  exact y
theorem typeKw {Q : Fin → Shared → Prop} (hT : ∀ Y : String, bm.contains (.type Y) = bmB.contains (.type Y)) (F : ExcBaseFacts B newId initId bmB)
    (hC : h.get? C = some (excClassObj nm q C N bs bm hdct sn sub ab col dd k0 k1 k2 k3 k5 newId))
    (hi : W.Looks (model prog w) h (typeLookup (.ref C) "__init__") (some (.ref fI))) (hb : ∀ self, W.Looks (model prog w) h (bindSpecial (.ref fI) self) (.ref fI, [self]))
    (y : codeAny (model prog w) A (.call (.ref fI) ⟨[.ref (h.objs.size + 1)], kwN v⟩) (fun r s' => match r with | .ok (.ret u) => u = .none ∧ Q (.done (.ret (.ref (h.objs.size + 1)))) s' | .ok _ => False | .error e => E e s')
      ⟨(h.push (PySem.W.kdv_tup [])).push (PySem.HandSPX.excO C h.objs.size), gs, dr, tk, os⟩) :
    wpAny (model prog w) A (Builtin.«type.__call__» ⟨[.ref C], kwN v⟩) Q E ⟨h, gs, dr, tk, os⟩ := by
  repeat (first
    | with_reducible refine wpAny_loadPart_at hC ?_
    | with_reducible refine wpAny_madeBy_exc hC ?_
    | wp_step)
  refine codeAny_call_builtin_code (Code.quiet_builtin _ F.quiet) (chkNew hT F hC ?_)
  refine newKw hT F hC ?_
  show wpAny _ _ _ _ _ _
  have up : ∀ b o, h.get? b = some o → ((h.push (PySem.W.kdv_tup [])).push (PySem.HandSPX.excO C h.objs.size)).get? b = some o := fun b o e => Heap.get?_push_of_some _ (Heap.get?_push_of_some _ e)
  have hC1 := up _ _ hC
  have ge : ((h.push (PySem.W.kdv_tup [])).push (PySem.HandSPX.excO C h.objs.size)).get? (h.objs.size + 1) = some (PySem.HandSPX.excO C h.objs.size) := by heap_get
  have self1 : (Value.ref C :: bm).contains (.ref C) = true := by simp
  have i1 := hi.keeps up
  have b1 := (hb (.ref (h.objs.size + 1))).keeps up
  unfold isInstance
  repeat (first
    | with_reducible refine wpAny_loadPart_at ge ?_
    | (with_reducible refine wpAny_isSubtype_exc hC1 ?_; rw [self1])
    | wp_step)
  show wpAny _ _ (typeLookup (.ref C) _) _ _ _
  refine i1.at ?_
  refine wpAny_holding (wpAny_bind (b1.at ?_))
  refine wpAny_bind (wpAny_call (codeAny_mono y fun r s' z => ?_))
  rcases r with e | (u | _ | _ | _) <;> first | exact z | exact z.elim | skip
  obtain ⟨rfl, z⟩ := z
  first
    | exact wpAny_pure (wpAny_pure z)
    | (wp_walk; exact z)
theorem chkCall {Q : Unit → Shared → Prop} (hC : h.get? C = some (excClassObj nm q C N bs bm hdct sn sub ab col dd k0 k1 k2 k3 k5 newId)) (y : Q () ⟨h, gs, dr, tk, os⟩) :
    wpAny M A (checkBuiltinCall "type.__call__" ⟨[.ref C], kwN v⟩) Q E ⟨h, gs, dr, tk, os⟩ := by
  have f3 := tc_sub
  have ty : (⟨h, gs, dr, tk, os⟩ : Shared).TypeIs (.ref C) "type" := ⟨_, hC, rfl⟩
  simp only [checkBuiltinCall, tc_kind, tc_split]
  repeat (any_goals (first
    | assumption
    | with_reducible refine wpAny_loadPart_at hC ?_
    | with_reducible refine wpAny_onRaise ?_
    | with_reducible refine wpAny_map ?_
    | wp_step))
theorem callKw (hT : ∀ Y : String, bm.contains (.type Y) = bmB.contains (.type Y)) (F : ExcBaseFacts B newId initId bmB)
    (hC : h.get? C = some (excClassObj nm q C N bs bm hdct sn sub ab col dd k0 k1 k2 k3 k5 newId))
    (hi : W.Looks (model prog w) h (typeLookup (.ref C) "__init__") (some (.ref fI))) (hb : ∀ self, W.Looks (model prog w) h (bindSpecial (.ref fI) self) (.ref fI, [self]))
    (y : codeAny (model prog w) (A.under (.builtin "type.__call__" ⟨[.ref C], kwN v⟩)) (.call (.ref fI) ⟨[.ref (h.objs.size + 1)], kwN v⟩) (W.InitBack (h.objs.size + 1) R)
      ⟨(h.push (PySem.W.kdv_tup [])).push (PySem.HandSPX.excO C h.objs.size), gs, dr, tk, os⟩) : codeAny (model prog w) A (.call (.ref C) ⟨[], kwN v⟩) R ⟨h, gs, dr, tk, os⟩ := by
  have f1 := tc_lookup
  have f2 := tc_bind (.ref C)
  have ty : (⟨h, gs, dr, tk, os⟩ : Shared).TypeIs (.ref C) "type" := ⟨_, hC, rfl⟩
  refine codeAny_of_tree ?_
  show wpAny _ _ (callAny (.ref C) _) _ _ _
  repeat (any_goals (first
    | assumption
    | with_reducible refine wpAny_loadPart_at hC ?_
    | wp_step))
  refine ⟨rfl, ?_⟩
  refine codeAny_call_builtin_at (Code.quiet_builtin _ (by decide +kernel)) entry_typeCall (chkCall hC (typeKw hT F hC hi hb ?_))
  refine codeAny_mono y fun r s' z => ?_
  rcases r with e | (u | _ | _ | _) <;> exact z
end
end Tw
namespace Tw
open PySem PySem.Spec PyProof.Rows L2
def tMkK (C : Addr) (sp : Sp) (te : TE) : TE := fun σ H Q => tCons te tNil σ H fun zs H1 => ∃ y, zs = [y] ∧ ∀ a, H1 a = none → sp [.ref a, y] (upd H1 a (exo a C none)) (fun v H2 => v = .non ∧ Q (.ref a) H2) (fun _ _ _ => False)
theorem pe_oexK {X : Cx} {CX : CXT} {x : Str} {C fI : Addr} {k : Nat} {fd : FuncData} {ps : List Str} {sp : Sp} {e : Expr} {te : TE} {p pos kpos : Pos} (T : OexC X.K C) (iC : PySem.W.findIn X.K (.ref C) "__init__" = some (some (.ref fI))) (tI : PySem.W.typeIn X.K (.ref fI) = some (.type "function"))
    (F1 : FnOk X.prog X.w X.K X.mg X.base CX k fI fd ps sp) (hr : Room (k + 1) X.A) (hb : ∀ (s : Shared) (u y : Value), BindsTo s fd ⟨[u], kwN y⟩ (ps.zip [u, y])) (hx : Passes CX X (fun _ _ _ => False)) (hm : X.mg x = some (.ref C)) (he : PE X e te) (hg : Gl X x := by rfl)
    (hall : (backToKw pos (keywordEach [⟨some "number", e, kpos⟩] X.env)).all (·.1.isSome) = true := by rfl) (hks : (backToKw pos (keywordEach [⟨some "number", e, kpos⟩] X.env)).filterMap (·.1) = [("number" : Str)] := by rfl) (hdb : (x == ("__debug__" : Str)) = false := by decide)
    (hpl : ((backTo pos (starEach [] X.env)).any (·.1) || (backToKw pos (keywordEach [⟨some "number", e, kpos⟩] X.env)).any (·.1.isNone)) = false := by rfl) :
    PE X (.Call (.Name x p) [] [⟨some "number", e, kpos⟩] pos) (tMkK C sp te) := by
  refine ⟨fun pins s σ H Q I h => wpAny_Call_Name_kw (ld_glob I hg hm ?_ hdb)⟩
  obtain ⟨nm, q, N, bs, bm, sn, sub, ab, col, dd, k0, k1, k2, k3, k5, hC, hbm⟩ := T.cls
  have PKs : PK X [⟨some "number", e, kpos⟩] (tCons te tNil) := pk_cons he pk_nil
  refine PySem.W.callWith_KW0 (h₀ := X.base) I.ok.mod.kin T.kC hall (thn (PKs.run pos pins s σ H _ I h) fun ws s1 y => ?_) hpl
  obtain ⟨zs, H1, I1, r1, y, rfl, q1⟩ := y
  obtain ⟨u, rfl, ru⟩ := r1.one
  refine ⟨I1.kIn, ?_⟩
  rw [hks]
  show wpAny _ _ (call (.ref C) [] (kwN u)) _ _ _
  obtain ⟨hp, gs, dr, tk, os⟩ := s1
  have le1 : hp.objs.size ≤ hp.objs.size + 1 := Nat.le_succ _
  have hn : H1 (hp.objs.size + 1) = none := I1.hok.fresh le1
  have hq := q1 (hp.objs.size + 1) hn
  have hget : ((hp.push (PySem.W.kdv_tup [])).push (PySem.HandSPX.excO C hp.objs.size)).get? (hp.objs.size + 1) = some (PySem.HandSPX.excO C hp.objs.size) := by heap_get
  have I2 := I1.laid (t' := tk) (a := hp.objs.size + 1) (o := exo (hp.objs.size + 1) C none) (h' := (hp.push (PySem.W.kdv_tup [])).push (PySem.HandSPX.excO C hp.objs.size)) (fun b o e => Heap.get?_push_of_some _ (Heap.get?_push_of_some _ e)) le1 (exo_ok hget)
  have r2 : Vals [V.ref (hp.objs.size + 1), y] [Value.ref (hp.objs.size + 1), u] := .cons rfl (.cons ru .nil)
  refine wpAny_call (callKw (fun Y => PySem.HandSPX.refsVE_contains Y bm hbm) F.excBase_ValueError (I1.kIn _ _ hC) (PySem.W.looks_findIn I1.kIn iC) (fun self => PySem.W.bind_fn I1.kIn self tI)
    (codeAny_mono (F1.run _ X.stack _ _ ⟨[Value.ref (hp.objs.size + 1)], kwN u⟩ _ _ _ (fun _ _ _ => False) (hr.make C [] (kwN u)) (I2.env0.make C [] (kwN u)) (hb _ _ _) r2 hq) fun r s' y => ?_))
  cases r with
  | error er => exact hx pins σ _ _ er s' I2 y
  | ok fl =>
    cases fl with
    | ret u =>
      obtain ⟨v, H', I3, rv, ev, q3⟩ := I2.after y
      subst ev
      exact ⟨rv, .ref (hp.objs.size + 1), H', I3, rfl, q3⟩
    | next => exact y.elim
    | brk => exact y.elim
    | cont => exact y.elim
end Tw

/-! The head by one run in the kernel: the defs by name, the refusals' classes by Booleans, the empty tables of the defs that hold a generator expression. -/
namespace Tw
open PySem PySem.Spec PyProof.Rows L2
abbrev Fr : Type := PySem.W.Frag
/-! ### the hook -/
abbrev asK (g : Addr → Option Obj) (n : Nat) : List Addr := cStatics :: He.asD g n
structure SaysK (fa : List He.Fa) (fn : List He.DefD) (tf : List He.Defn) (ex : Fr → Bool) (h : Heap) (K : Fr) : Prop where
  d : He.SaysD fa fn K
  more : ex K = true
  hd : ∀ p ∈ tf, PySem.W.codeHdIn K (He.cT K p).1 (He.cT K p).2 = true
  out : ∀ p ∈ tf, K.lookup (He.cT K p).2 = none
  empty : ∀ p ∈ tf, h.get? (He.cT K p).2 = some { cls := .none, data := .fields #[] }
abbrev AlK : Type := He.AlD × Bool
def obsK (n : Nat) (fa : List He.Fa) (fn : List He.DefD) (tf : List He.Defn) (ex : Fr → Bool) (g : Addr → Option Obj) : AlK := (He.obsD fa fn (He.frT g (asK g n)), ex (He.frT g (asK g n)) && He.tabsB g tf (He.frT g (asK g n)))
def valK (fn : List He.DefD) : AlK := (He.valD fn, true)
theorem saysK_of {n : Nat} {fa : List He.Fa} {fn : List He.DefD} {tf : List He.Defn} {ex : Fr → Bool} {h : Heap} (e : obsK n fa fn tf ex h.get? = valK fn) : SaysK fa fn tf ex h (He.frT h.get? (asK h.get? n)) := by
  have e1 : He.obsD fa fn (He.frT h.get? (asK h.get? n)) = He.valD fn := congrArg (fun z : AlK => z.1) e
  have e2 : (ex (He.frT h.get? (asK h.get? n)) && He.tabsB h.get? tf (He.frT h.get? (asK h.get? n))) = true := congrArg (fun z : AlK => z.2) e
  obtain ⟨h1, h2⟩ := He.ba e2
  have key : ∀ p ∈ tf, PySem.W.codeHdIn (He.frT h.get? (asK h.get? n)) (He.cT (He.frT h.get? (asK h.get? n)) p).1 (He.cT (He.frT h.get? (asK h.get? n)) p).2 = true ∧ ∃ o, h.get? (He.cT (He.frT h.get? (asK h.get? n)) p).2 = some o ∧ He.emptyTab o = true := fun p hp => by
    obtain ⟨h3, h4⟩ := He.ba (List.all_eq_true.mp h2 p hp)
    refine ⟨h3, ?_⟩
    cases q : h.get? (He.cT (He.frT h.get? (asK h.get? n)) p).2 with
    | none =>
      rw [q] at h4
      cases h4
    | some o =>
      rw [q] at h4
      exact ⟨o, rfl, h4⟩
  exact ⟨e1, h1, fun p hp => (key p hp).1, fun p hp => by
    obtain ⟨_, o, q, z⟩ := key p hp
    exact He.frT_none q z, fun p hp => by
    obtain ⟨_, o, q, z⟩ := key p hp
    rw [q, He.emptyTab_eq z]⟩
def hookK (n : Nat) (fa : List He.Fa) (fn : List He.DefD) (tf : List He.Defn) (ex : Fr → Bool) : PySem.W.Hook where
  α := AlK
  obs := fun s => obsK n fa fn tf ex s.heap.get?
  val := fun _ => valK fn
  says := fun _ h => ∃ K : Fr, K.In h ∧ SaysK fa fn tf ex h K
  of := fun _ _ e => ⟨_, He.frT_in, saysK_of e⟩
  keeps := fun _ _ _ ⟨K, hK, c⟩ k => ⟨K, PySem.W.Frag.In.keeps hK k, ⟨c.d, c.more, c.hd, c.out, fun p hp => k _ _ (c.empty p hp)⟩⟩
theorem obsK_eq {n : Nat} {fa : List He.Fa} {fn : List He.DefD} {tf : List He.Defn} {ex : Fr → Bool} {g : Addr → Option Obj} {s : Shared} (h : ∀ a, g a = s.heap.get? a) : obsK n fa fn tf ex g = (hookK n fa fn tf ex).obs s := by
  have e : g = s.heap.get? := funext h
  rw [e] <;> rfl
/-! ### defs -/
abbrev dOf (x : Str) (st : Stmt) : He.DefD := ⟨(x, none), x, x, defArgs st, defBody st, defScope st, [], []⟩
abbrev mOf (C m q : Str) (st : Stmt) : He.DefD := ⟨(C, some m), m, q, defArgs st, defBody st, defScope st, [], []⟩
section
variable {K : Fr} {h : Heap} {mg : Str → Option Value}
theorem fun_of {x q : Str} {st : Stmt} {f : Addr} {fd : FuncData} (F : FunD K x q (defArgs st) (defBody st) (defScope st) [] [] f fd) : Fun K x q st f fd := by
  obtain ⟨⟨oc, od, dV, kV, doc, pm, an, cdv, ct, osl, e, lk, hc, dv, _⟩, kp⟩ := F
  rcases dv with ⟨_, rfl⟩ | ⟨z, _⟩
  · exact ⟨⟨oc, od, kV, doc, pm, an, cdv, ct, osl, e, lk, hc⟩, kp⟩
  · exact absurd rfl z
theorem top_of {x : Str} {st : Stmt} {ps : List Str} (X : K.In h) (G : h.Ns mainGlobals mg) (D : ∃ fd, FunD K x x (defArgs st) (defBody st) (defScope st) [] [] (He.ga K x) fd) (g : (He.Fa.glo x).ok K = true)
    (hb : ∀ (kV doc pm : Value) (an : Option Addr) (cdv ct : Value) (us : List Value), us.length = ps.length → bindArgs (PySem.W.fnOf x x (defArgs st) (defBody st) (defScope st) .none kV doc pm an cdv ct) ⟨us, []⟩ = pure (ps.zip us)) : Top K mg x st ps := by
  obtain ⟨fd, F⟩ := D
  have F' := fun_of F
  exact ⟨_, fd, F', He.glo_ok X G g, F'.binds hb⟩
theorem topC_of {x : Str} {st : Stmt} {ps : List Str} (X : K.In h) (G : h.Ns mainGlobals mg) (D : ∃ fd, FunD K x x (defArgs st) (defBody st) (defScope st) [] [] (He.fAd K (x, none)) fd) (g : (He.Fa.glo x).ok K = true)
    (hb : ∀ (kV doc pm : Value) (an : Option Addr) (cdv ct : Value) (us : List Value), us.length = ps.length → bindArgs (PySem.W.fnOf x x (defArgs st) (defBody st) (defScope st) .none kV doc pm an cdv ct) ⟨us, []⟩ = pure (ps.zip us)) : TopC K mg x st ps (He.cT K (x, none)).1 := by
  obtain ⟨fd, ⟨oc, od, dV, kV, doc, pm, an, cdv, ct, osl, rfl, lk, hc, dv, _⟩, kp⟩ := D
  obtain ⟨c, rfl⟩ := He.codeIn_ref hc
  have ec : He.codeOf K (x, none) = c := He.codeOf_eq lk rfl
  rcases dv with ⟨_, rfl⟩ | ⟨z, _⟩
  · have e2 : (He.cT K (x, none)).1 = c := ec
    rw [e2]
    exact ⟨_, oc, od, kV, doc, pm, an, ct, osl, lk, hc, kp, He.glo_ok X G g, .all (hb kV doc pm an (.ref c) ct)⟩
  · exact absurd rfl z
end
theorem TopC.kw {K : Fr} {mg : Str → Option Value} {x : Str} {st : Stmt} {ps ks : List Str} {c : Addr} {g : List Value → List Value → List Value} {gV : List V → List V → List V} (D : TopC K mg x st ps c)
    (hb : ∀ (kV doc pm : Value) (an : Option Addr) (cdv ct : Value) (us ws : List Value), (g us ws).length = ps.length → bindArgs (PySem.W.fnOf x x (defArgs st) (defBody st) (defScope st) .none kV doc pm an cdv ct) ⟨us, ks.zip ws⟩ = pure (ps.zip (g us ws)))
    (rel : ∀ {vs : List V} {us : List Value} {zs : List V} {ws : List Value}, Vals vs us → Vals zs ws → Vals (gV vs zs) (g us ws)) : KwOf K mg x ps ks g gV := by
  obtain ⟨f, oc, od, kV, doc, pm, an, ct, osl, lk, _, _, m, _⟩ := D
  exact ⟨f, _, m, ⟨oc, od, osl, lk⟩, ⟨fun s us ws _ hl => .of_eq (hb kV doc pm an (.ref c) ct us ws hl), rel⟩⟩
/-! ### the refusals' classes -/
def xcB (K : Fr) (C : Addr) : Bool := PySem.W.isClsIn K C && (He.eqO (PySem.W.findIn K (.ref C) "__getattribute__") (some (some (.builtin "BaseException.__getattribute__"))) && (He.eqO (PySem.W.findIn K (.ref C) "__getattr__") (some none) &&
  (decide (PySem.W.subIn K (.ref C) (.type "BaseException") = some true) && (PySem.W.hasDictIn K C && (He.eqO (PySem.W.findIn K (.ref C) "__class__") (some (some (.builtin "object.__class__"))) &&
  (He.eqO (PySem.W.specialIn K (.builtin "object.__class__") "__get__") (some (some (.builtin "getset_descriptor.__get__"))) && (decide (PySem.W.takesIn K (.builtin "object.__class__") = some true) && decide (PySem.W.mroIn K C (.type "object") = some true))))))))
theorem xcB_ok {K : Fr} {C : Addr} (h : xcB K C = true) : XcC K C := by
  obtain ⟨a1, h⟩ := He.ba h
  obtain ⟨a2, h⟩ := He.ba h
  obtain ⟨a3, h⟩ := He.ba h
  obtain ⟨a4, h⟩ := He.ba h
  obtain ⟨a5, h⟩ := He.ba h
  obtain ⟨a6, h⟩ := He.ba h
  obtain ⟨a7, h⟩ := He.ba h
  obtain ⟨a8, a9⟩ := He.ba h
  exact ⟨a1, He.eqO_ok a2, He.eqO_ok a3, of_decide_eq_true a4, a5, He.eqO_ok a6, He.eqO_ok a7, of_decide_eq_true a8, of_decide_eq_true a9⟩
def kitB (K : Fr) (C CR CA CB CF CN CU : Addr) (a b f n u : Bool) : Bool := xcB K C && (decide (PySem.W.kitOne K (.ref C) (.ref CR) = some true) && (decide (PySem.W.kitOne K (.ref C) (.type "ValueError") = some true) && (decide (PySem.W.kitOne K (.ref C) (.ref CA) = some a) &&
  (decide (PySem.W.kitOne K (.ref C) (.ref CB) = some b) && (decide (PySem.W.kitOne K (.ref C) (.ref CF) = some f) && (decide (PySem.W.kitOne K (.ref C) (.ref CN) = some n) && decide (PySem.W.kitOne K (.ref C) (.ref CU) = some u)))))))
theorem kitB_ok {K : Fr} {C CR CA CB CF CN CU : Addr} {a b f n u : Bool} (h : kitB K C CR CA CB CF CN CU a b f n u = true) : Kit K C CR CA CB CF CN CU a b f n u := by
  obtain ⟨a1, h⟩ := He.ba h
  obtain ⟨a2, h⟩ := He.ba h
  obtain ⟨a3, h⟩ := He.ba h
  obtain ⟨a4, h⟩ := He.ba h
  obtain ⟨a5, h⟩ := He.ba h
  obtain ⟨a6, h⟩ := He.ba h
  obtain ⟨a7, a8⟩ := He.ba h
  exact ⟨xcB_ok a1, of_decide_eq_true a2, of_decide_eq_true a3, of_decide_eq_true a4, of_decide_eq_true a5, of_decide_eq_true a6, of_decide_eq_true a7, of_decide_eq_true a8⟩
/-- the kit by names -/
abbrev kitN (K : Fr) (x : Str) (a b f n u : Bool) : Bool := kitB K (He.ga K x) (He.ga K "RowError") (He.ga K "NoAsk") (He.ga K "NoBack") (He.ga K "NoFit") (He.ga K "NoNumber") (He.ga K "NoRule") a b f n u
def oexB (K : Fr) (C : Addr) : Bool := (match K.lookup C with
  | some ⟨.type "type", _, .cls cd, sl⟩ => (match cd.mro, sl.toList with
    | .ref C' :: bm, [_, _, _, _, some (.builtin n), _] => C' == C && n == "ValueError.__new__" && !cd.hasDel && cd.hasDict && PySem.HandSPX.refsVE bm
    | _, _ => false)
  | _ => false) && (He.eqO (PySem.W.findIn K (.ref C) "__setattr__") (some (some (.builtin "object.__setattr__"))) && (decide (PySem.W.subIn K (.ref C) (.type "BaseException") = some true) && (decide (PySem.W.typeIn K (.ref C) = some (.type "type")) && PySem.W.keepIn K (.ref C))))
theorem oexB_ok {K : Fr} {C : Addr} (h : oexB K C = true) : OexC K C := by
  obtain ⟨q, h⟩ := He.ba h
  obtain ⟨a2, h⟩ := He.ba h
  obtain ⟨a3, h⟩ := He.ba h
  obtain ⟨a4, a5⟩ := He.ba h
  refine ⟨?_, He.eqO_ok a2, of_decide_eq_true a3, of_decide_eq_true a4, a5⟩
  split at q
  · rename_i dd cd sl ho
    split at q
    · rename_i C' bm k0 k1 k2 k3 n k5 hm hs
      simp only [Bool.and_eq_true, beq_iff_eq, Bool.not_eq_true'] at q
      obtain ⟨⟨⟨⟨rfl, rfl⟩, hdel⟩, hdi⟩, ht⟩ := q
      obtain ⟨nm, bs, mro, ns, qn, hd, sn, sub, ab, col, del⟩ := cd
      dsimp only at hm hdel hdi
      subst hm hdel hdi
      have hsl : sl = #[k0, k1, k2, k3, some (.builtin "ValueError.__new__"), k5] := by
        obtain ⟨l⟩ := sl
        simp only at hs
        rw [hs]
      subst hsl
      exact ⟨nm, qn, ns, bs, bm, sn, sub, ab, col, dd, k0, k1, k2, k3, k5, ho, ht⟩
    · cases q
  · cases q
def rdB (K : Fr) (C : Addr) : Bool := PySem.W.readsIn K C (.type "type") && (He.eqO (PySem.W.specialIn K (.ref C) "__getattribute__") (some (some (.builtin "type.__getattribute__"))) && (match PySem.W.findCls K (.ref C) (.type "type") "__init__" with
  | some (.val (.builtin n)) => n == "ValueError.__init__"
  | _ => false))
theorem rdB_ok {K : Fr} {C : Addr} (h : rdB K C = true) : ClX.CRead K C (.type "type") ∧ PySem.W.findCls K (.ref C) (.type "type") "__init__" = some (.val (.builtin "ValueError.__init__")) := by
  obtain ⟨a1, h⟩ := He.ba h
  obtain ⟨a2, q⟩ := He.ba h
  refine ⟨⟨a1, He.eqO_ok a2⟩, ?_⟩
  split at q
  · rename_i n e
    rw [beq_iff_eq] at q
    subst q
    exact e
  · cases q
/-- what is asked of NoNumber and of its base -/
def numB (K : Fr) : Bool := oexB K (He.ga K "NoNumber") && rdB K (He.ga K "RowError")
def exmB (K : Fr) (x y : Str) : Bool := decide (PySem.W.exmOne K (.ref (He.ga K x)) (.ref (He.ga K y)) = some true)
def strB (K : Fr) (x : Str) : Bool := He.eqO (PySem.W.findIn K (.ref (He.ga K x)) "__str__") (some (some (.builtin "BaseException.__str__")))
/-! ### the end -/
def spLawT (K : PySem.W.Frag) (P1 P2 : Addr) : Sp := sp1 fun a H Q _ => ∃ (sa : Addr) (xs : List Int), a = .ref sa ∧ SqL K H sa (xs.map V.int) ∧ GxR.TabG H P1 ∧ GxR.TabG H P2 ∧ ∀ H', Q (.bl true) H'
theorem tabB_of {h : Heap} {mg : Str → Option Value} {c P : Addr} (T : LamX.TabB h mg c P) : GxR.TabB h mg c P := ⟨T.code, T.bm, T.gP⟩
theorem tabG_nil {H : Hp} {P : Addr} (e : H P = some (.tbl #[])) : GxR.TabG H P := ⟨#[], e, by first | trivial | exact .nil | simp [TriplesOk]⟩
end Tw

/-! zip of two whose tuples are kept under one name: the tuple it gave first may still be out, or be gone. -/
namespace Tw
open PySem PySem.Spec PyProof PyProof.Rows L2
/-- a zip that remembers a tuple or none -/
abbrev ZQ (h : Heap) (z TI TO : Addr) (v : Value) (f : Bool) : Prop := h.get? z = some ⟨.type "zip", none, .fields #[v, .bool f, .bool false, .ref TI, .ref TO], #[]⟩
def Rem (v : Value) : Prop := v = .none ∨ ∃ T : Nat, v = rawInt T
section
variable {prog : Program} {w : World} {A : Around} {E : Value → Shared → Prop} {s : Shared} {z TI TO i1 i2 : Addr} {fp1 fp2 : List Addr} {n1 n2 i : Nat} {P1 P2 : Nat → Value → Prop} {St1 St2 : Nat → Heap → Prop} {v : Value} {f : Bool}
theorem alive_w {a : Addr} {Q : Option Obj → Shared → Prop} (h : Q (s.heap.get? a) s) : wpAny (model prog w) A (loadIfAlive a) Q E s := fun _ _ _ => h
theorem zq_free {Q : Bool → Shared → Prop} (hz : ZQ s.heap z TI TO v f) (hv : Rem v) (ht : Q true s) (hf : ∀ h', ZQ h' z TI TO v true → Heap.SameBut z s.heap h' → Q false { s with heap := h' }) :
    wpAny (model prog w) A (Builtin.SmallTypes.ownedTupleIsFree (.ref z)) Q E s := by
  unfold Builtin.SmallTypes.ownedTupleIsFree; refine wpAny_bind (wpAny_field hz rfl (x := v) rfl ?_)
  rcases hv with rfl | ⟨T, rfl⟩
  · exact wpAny_pure ht
  · show wpAny (model prog w) A (loadIfAlive ((T : Int).toNat) >>= _) Q E s
    rw [Int.toNat_natCast]
    refine wpAny_bind (alive_w ?_)
    cases e : s.heap.get? T with
    | none => exact wpAny_pure ht
    | some o =>
      rw [if_neg (by simp)]; refine wpAny_bind (wpAny_field hz rfl (x := .bool f) rfl ?_)
      cases f with
      | true => rw [if_neg (by decide)]; exact wpAny_pure (hf s.heap hz (Heap.SameBut.refl _ _))
      | false => rw [if_pos (by rfl)]; exact wpAny_bind (wpAny_setField_rec hz (by simp) fun g hg sg => wpAny_pure (hf g hg sg))
/-- the next pair -/
theorem zq_item {Q : Value → Shared → Prop} (S : ZipSep2 z TI TO i1 i2 fp1 fp2) (D1 : Draws prog w A i1 fp1 n1 P1 St1) (D2 : Draws prog w A i2 fp2 n2 P2 St2) (hz : ZQ s.heap z TI TO v f) (hv : Rem v) (hI : IsTupOf2 s.heap TI (.ref i1) (.ref i2)) (hO : ∃ y1 y2, IsTupOf2 s.heap TO y1 y2) (st1 : St1 i s.heap) (st2 : St2 i s.heap) (b1 : i < n1) (b2 : i < n2)
    (hQ : ∀ x1 x2 h' tk v' f', P1 i x1 → P2 i x2 → ZQ h' z TI TO v' f' → Rem v' → (∃ y1 y2, IsTupOf2 h' TO y1 y2) → St1 (i + 1) h' → St2 (i + 1) h' → IsTupOf2 h' s.heap.objs.size x1 x2 → h'.objs.size = s.heap.objs.size + 1 → (∀ c o, c ≠ z → c ≠ TO → c ≠ i1 → c ≠ i2 → s.heap.get? c = some o → h'.get? c = some o) → Q (.ref s.heap.objs.size) { s with heap := h', toks := tk }) :
    wpAny (model prog w) A (Builtin.«zip.__next__» ⟨[.ref z], []⟩) (fun fin s' => ∃ v, fin = .done (.ret v) ∧ Q v s') E s := by
  obtain ⟨y1, y2, hO⟩ := hO
  obtain ⟨h0, gs, dr, tk, os⟩ := s
  show wpAny _ A (field (.ref z) 2 >>= _) _ E _; refine wpAny_bind (wpAny_field hz rfl (x := .bool false) rfl ?_)
  show wpAny _ A (field (.ref z) 3 >>= _) _ E _; refine wpAny_bind (wpAny_field hz rfl (x := .ref TI) rfl (wpAny_bind (wpAny_seqItems hI rfl ?_)))
  show wpAny _ A (Builtin.SmallTypes.ownedTupleIsFree (.ref z) >>= _) _ E _; refine wpAny_bind (zq_free hz hv ?_ fun ha za sa => ?_)
  · simp only [if_true]
    refine wpAny_bind (wpAny_rule (wpAny_bind (wpAny_field hz rfl (x := .ref TO) rfl (wpAny_bind (wpAny_setField_rec hz (by simp) fun ha za sa => ?_)))))
    replace za : ZQ ha z TI TO .ellipsis f := za
    replace sa : Heap.SameBut z h0 ha := sa
    refine wpAny_bind ?_; simp only [List.zipIdx_cons, List.zipIdx_nil, List.forIn_cons, List.forIn_nil]
    refine wpAny_bind (wpAny_bind (wpAny_onRaise ?_)); show wpAny _ A (Builtin.SmallTypes.nextOf (.ref i1) >>= _) _ _ ⟨ha, gs, dr, tk, os⟩
    refine wpAny_bind (D1.item i _ _ _ b1 (D1.over st1 sa S.zf1) fun x1 hb tb q1 t1 sb => wpAny_pure ?_)
    replace sb : Heap.SameBut i1 ha hb := sb
    have Ob : IsTupOf2 hb TO y1 y2 := sb.extBut _ _ S.Ti1 (sa.extBut _ _ S.TOz hO)
    refine wpAny_bind (wpAny_seqItems (s := ⟨hb, gs, dr, tb, os⟩) Ob rfl (wpAny_bind (updateSeq_IsTupOf2 (s := ⟨hb, gs, dr, tb, os⟩) Ob fun hc Oc sc => ?_)))
    replace Oc : IsTupOf2 hc TO x1 y2 := Oc
    replace sc : Heap.SameBut TO hb hc := sc
    refine wpAny_bind (wpAny_letGo (wpAny_pure (wpAny_bind (wpAny_bind (wpAny_onRaise ?_))))); show wpAny _ A (Builtin.SmallTypes.nextOf (.ref i2) >>= _) _ _ ⟨hc, gs, dr, tb, os⟩
    refine wpAny_bind (D2.item i _ _ _ b2 (D2.over (D2.over (D2.over st2 sa S.zf2) sb S.sep1_2) sc S.Tf2) fun x2 hd td q2 t2 sd => wpAny_pure ?_)
    replace sd : Heap.SameBut i2 hc hd := sd
    have Od : IsTupOf2 hd TO x1 y2 := sd.extBut _ _ S.Ti2 Oc
    refine wpAny_bind (wpAny_seqItems (s := ⟨hd, gs, dr, td, os⟩) Od rfl (wpAny_bind (updateSeq_IsTupOf2 (s := ⟨hd, gs, dr, td, os⟩) Od fun he Oe se => ?_)))
    replace Oe : IsTupOf2 he TO x1 x2 := Oe
    replace se : Heap.SameBut TO hd he := se
    refine wpAny_bind (wpAny_letGo (wpAny_pure (wpAny_pure (wpAny_bind (wpAny_seqItems (s := ⟨he, gs, dr, td, os⟩) Oe rfl (wpAny_bind (wpAny_newTuple ?_)))))))
    have sz : he.objs.size = h0.objs.size := by rw [se.1, sd.1, sc.1, sb.1, sa.1]
    have ze : ZQ he z TI TO .ellipsis f := se.extBut _ _ S.TOz.symm (sd.extBut _ _ S.zi2 (sc.extBut _ _ S.TOz.symm (sb.extBut _ _ S.zi1 za)))
    have fr : ∀ c o, c ≠ z → c ≠ TO → c ≠ i1 → c ≠ i2 → h0.get? c = some o → he.get? c = some o := fun c o n1 n2 n3 n4 k => se.extBut _ _ n2 (sd.extBut _ _ n4 (sc.extBut _ _ n2 (sb.extBut _ _ n3 (sa.extBut _ _ n1 k))))
    have u1 : St1 (i + 1) he := D1.over (D1.over (D1.over t1 sc S.Tf1) sd S.sep2_1) se S.Tf1
    have u2 : St2 (i + 1) he := D2.over t2 se S.Tf2
    have lz : z < he.objs.size := Heap.lt_size ze
    show wpAny _ A (Builtin.SmallTypes.ownedTupleHandOut (.ref z) (.ref he.objs.size) >>= _) _ E ⟨he.push { cls := .type "tuple", data := .seq #[x1, x2] }, gs, dr, td, os⟩
    refine wpAny_bind ?_; unfold Builtin.SmallTypes.ownedTupleHandOut
    have zf : ZQ (he.push { cls := .type "tuple", data := .seq #[x1, x2] }) z TI TO .ellipsis f := Heap.get?_push_of_some _ ze
    refine wpAny_bind (wpAny_setField_rec zf (by simp) fun hf zf' sf => ?_)
    replace zf' : ZQ hf z TI TO (rawInt he.objs.size) f := zf'
    refine wpAny_setField_rec zf' (by simp) fun hg zg sg => ?_
    replace zg : ZQ hg z TI TO (rawInt he.objs.size) false := zg
    replace sf : Heap.SameBut z (he.push { cls := .type "tuple", data := .seq #[x1, x2] }) hf := sf
    replace sg : Heap.SameBut z hf hg := sg
    have up : ∀ c o, c ≠ z → he.get? c = some o → hg.get? c = some o := fun c o n1 k => sg.extBut _ _ n1 (sf.extBut _ _ n1 (Heap.get?_push_of_some _ k))
    have hT : IsTupOf2 hg he.objs.size x1 x2 := sg.extBut _ _ (Nat.ne_of_gt lz) (sf.extBut _ _ (Nat.ne_of_gt lz) (Heap.get?_push_size _ rfl))
    have sz2 : hg.objs.size = he.objs.size + 1 := by rw [sg.1, sf.1, Heap.size_push]
    rw [sz] at hT sz2
    refine wpAny_pure ⟨_, rfl, ?_⟩; show Q (.ref he.objs.size) ⟨hg, gs, dr, td, os⟩
    rw [sz]; exact hQ x1 x2 hg td _ _ q1 q2 zg (.inr ⟨_, rfl⟩) ⟨_, _, up _ _ S.TOz Oe⟩ (D1.frame _ _ _ u1 fun b hb o k => up b o (fun q => S.zf1 (q ▸ hb)) k) (D2.frame _ _ _ u2 fun b hb o k => up b o (fun q => S.zf2 (q ▸ hb)) k) hT sz2 fun c o n1 n2 n3 n4 k => up c o n1 (fr c o n1 n2 n3 n4 k)
  · simp only [Bool.false_eq_true, if_false]
    replace za : ZQ ha z TI TO v true := za
    replace sa : Heap.SameBut z h0 ha := sa
    refine wpAny_bind ?_; rw [← Array.forIn_toList]; simp only [List.forIn_cons, List.forIn_nil]
    refine wpAny_bind (wpAny_bind (wpAny_holding ?_)); show wpAny _ _ (Builtin.SmallTypes.nextOf (.ref i1) >>= _) _ _ ⟨ha, gs, dr, tk, os⟩
    refine wpAny_bind (D1.item i _ _ _ b1 (D1.over st1 sa S.zf1) fun x1 hb tb q1 t1 sb => wpAny_pure (wpAny_pure ?_))
    replace sb : Heap.SameBut i1 ha hb := sb
    refine wpAny_bind (wpAny_bind (wpAny_holding ?_)); show wpAny _ _ (Builtin.SmallTypes.nextOf (.ref i2) >>= _) _ _ ⟨hb, gs, dr, tb, os⟩
    refine wpAny_bind (D2.item i _ _ _ b2 (D2.over (D2.over st2 sa S.zf2) sb S.sep1_2) fun x2 hd td q2 t2 sd => wpAny_pure (wpAny_pure (wpAny_pure ?_)))
    replace sd : Heap.SameBut i2 hb hd := sd
    show wpAny _ _ (newTuple [x1, x2] >>= _) _ _ ⟨hd, gs, dr, td, os⟩; refine wpAny_bind (wpAny_newTuple ?_)
    have sz : hd.objs.size = h0.objs.size := by rw [sd.1, sb.1, sa.1]
    have zd : ZQ hd z TI TO v true := sd.extBut _ _ S.zi2 (sb.extBut _ _ S.zi1 za)
    have fr : ∀ c o, c ≠ z → c ≠ i1 → c ≠ i2 → h0.get? c = some o → hd.get? c = some o := fun c o n1 n3 n4 k => sd.extBut _ _ n4 (sb.extBut _ _ n3 (sa.extBut _ _ n1 k))
    refine wpAny_pure ⟨_, rfl, ?_⟩; show Q (.ref hd.objs.size) ⟨hd.push { cls := .type "tuple", data := .seq #[x1, x2] }, gs, dr, td, os⟩
    have hT : IsTupOf2 (hd.push { cls := .type "tuple", data := .seq #[x1, x2] }) hd.objs.size x1 x2 := Heap.get?_push_size _ rfl
    have sz2 : (hd.push { cls := .type "tuple", data := .seq #[x1, x2] }).objs.size = hd.objs.size + 1 := Heap.size_push ..
    have up : ∀ c o, hd.get? c = some o → (hd.push { cls := .type "tuple", data := .seq #[x1, x2] }).get? c = some o := fun c o k => Heap.get?_push_of_some _ k
    generalize hd.push { cls := .type "tuple", data := .seq #[x1, x2] } = hg at hT sz2 up
    rw [sz] at hT sz2 ⊢
    exact hQ x1 x2 hg td _ _ q1 q2 (up _ _ zd) hv ⟨_, _, up _ _ (fr _ _ S.TOz S.Ti1 S.Ti2 hO)⟩ (D1.frame _ _ _ (D1.over t1 sd S.sep2_1) fun b _ o k => up b o k) (D2.frame _ _ _ t2 fun b _ o k => up b o k) hT sz2 fun c o n1 _ n3 n4 k => up c o (fr c o n1 n3 n4 k)
/-- no pair more -/
theorem zq_end {Q : Fin → Shared → Prop} (S : ZipSep2 z TI TO i1 i2 fp1 fp2) (D1 : Draws prog w A i1 fp1 n1 P1 St1) (D2 : Draws prog w A i2 fp2 n2 P2 St2) (hz : ZQ s.heap z TI TO v f) (hv : Rem v) (hI : IsTupOf2 s.heap TI (.ref i1) (.ref i2)) (hO : ∃ y1 y2, IsTupOf2 s.heap TO y1 y2) (st1 : St1 i s.heap) (st2 : St2 i s.heap) (b1 : i ≤ n1) (b2 : i ≤ n2) (hend : i = n1 ∨ i = n2)
    (hE : ∀ h' tk e, (∀ c o, c ≠ z → c ≠ TO → c ≠ i1 → c ≠ i2 → s.heap.get? c = some o → h'.get? c = some o) → (∃ o, h'.get? e = some o ∧ o.cls = .type "StopIteration") → E (.ref e) { s with heap := h', toks := tk }) :
    wpAny (model prog w) A (Builtin.«zip.__next__» ⟨[.ref z], []⟩) Q E s := by
  obtain ⟨y1, y2, hO⟩ := hO
  obtain ⟨h0, gs, dr, tk, os⟩ := s
  show wpAny _ A (field (.ref z) 2 >>= _) _ E _; refine wpAny_bind (wpAny_field hz rfl (x := .bool false) rfl ?_)
  show wpAny _ A (field (.ref z) 3 >>= _) _ E _; refine wpAny_bind (wpAny_field hz rfl (x := .ref TI) rfl (wpAny_bind (wpAny_seqItems hI rfl ?_)))
  show wpAny _ A (Builtin.SmallTypes.ownedTupleIsFree (.ref z) >>= _) _ E _; refine wpAny_bind (zq_free hz hv ?_ fun ha za sa => ?_)
  · simp only [if_true]
    refine wpAny_bind (wpAny_rule (wpAny_bind (wpAny_field hz rfl (x := .ref TO) rfl (wpAny_bind (wpAny_setField_rec hz (by simp) fun ha za sa => ?_)))))
    replace za : ZQ ha z TI TO .ellipsis f := za
    replace sa : Heap.SameBut z h0 ha := sa
    refine wpAny_bind ?_; simp only [List.zipIdx_cons, List.zipIdx_nil, List.forIn_cons, List.forIn_nil]
    refine wpAny_bind (wpAny_bind (wpAny_onRaise ?_)); show wpAny _ A (Builtin.SmallTypes.nextOf (.ref i1) >>= _) _ _ ⟨ha, gs, dr, tk, os⟩
    by_cases lt : i < n1
    · refine wpAny_bind (D1.item i _ _ _ lt (D1.over st1 sa S.zf1) fun x1 hb tb q1 t1 sb => wpAny_pure ?_)
      replace sb : Heap.SameBut i1 ha hb := sb
      have Ob : IsTupOf2 hb TO y1 y2 := sb.extBut _ _ S.Ti1 (sa.extBut _ _ S.TOz hO)
      refine wpAny_bind (wpAny_seqItems (s := ⟨hb, gs, dr, tb, os⟩) Ob rfl (wpAny_bind (updateSeq_IsTupOf2 (s := ⟨hb, gs, dr, tb, os⟩) Ob fun hc Oc sc => ?_)))
      replace sc : Heap.SameBut TO hb hc := sc
      obtain rfl : i = n2 := by omega
      refine wpAny_bind (wpAny_letGo (wpAny_pure (wpAny_bind (wpAny_bind (wpAny_onRaise ?_))))); show wpAny _ A (Builtin.SmallTypes.nextOf (.ref i2) >>= _) _ _ ⟨hc, gs, dr, tb, os⟩
      refine wpAny_bind (D2.done ⟨hc, gs, dr, tb, os⟩ _ _ (D2.over (D2.over (D2.over st2 sa S.zf2) sb S.sep1_2) sc S.Tf2) fun hd e sd he => ?_)
      replace sd : Heap.ExtBut i2 hc hd := sd
      obtain ⟨oe, ho, hc'⟩ := he
      replace ho : hd.get? e = some oe := ho
      have zd : ZQ hd z TI TO .ellipsis f := sd _ _ S.zi2 (sc.extBut _ _ S.TOz.symm (sb.extBut _ _ S.zi1 za))
      have ne : e ≠ z := fun k => by subst k; rw [zd] at ho; cases ho; simp at hc'
      refine wpAny_setField_rec (s := ⟨hd, gs, dr, tb, os⟩) zd (by simp) fun hg _ sg => ?_
      replace sg : Heap.SameBut z hd hg := sg
      exact hE hg tb e (fun c o m1 m2 m3 m4 k => sg.extBut _ _ m1 (sd _ _ m4 (sc.extBut _ _ m2 (sb.extBut _ _ m3 (sa.extBut _ _ m1 k))))) ⟨oe, sg.extBut _ _ ne ho, hc'⟩
    · obtain rfl : i = n1 := by omega
      refine wpAny_bind (D1.done ⟨ha, gs, dr, tk, os⟩ _ _ (D1.over st1 sa S.zf1) fun hd e sd he => ?_)
      replace sd : Heap.ExtBut i1 ha hd := sd
      obtain ⟨oe, ho, hc'⟩ := he
      replace ho : hd.get? e = some oe := ho
      have zd : ZQ hd z TI TO .ellipsis f := sd _ _ S.zi1 za
      have ne : e ≠ z := fun k => by subst k; rw [zd] at ho; cases ho; simp at hc'
      refine wpAny_setField_rec (s := ⟨hd, gs, dr, tk, os⟩) zd (by simp) fun hg _ sg => ?_
      replace sg : Heap.SameBut z hd hg := sg
      exact hE hg tk e (fun c o m1 m2 m3 m4 k => sg.extBut _ _ m1 (sd _ _ m3 (sa.extBut _ _ m1 k))) ⟨oe, sg.extBut _ _ ne ho, hc'⟩
  · simp only [Bool.false_eq_true, if_false]
    replace sa : Heap.SameBut z h0 ha := sa
    refine wpAny_bind ?_; rw [← Array.forIn_toList]; simp only [List.forIn_cons, List.forIn_nil]
    refine wpAny_bind (wpAny_bind (wpAny_holding ?_)); show wpAny _ _ (Builtin.SmallTypes.nextOf (.ref i1) >>= _) _ _ ⟨ha, gs, dr, tk, os⟩
    by_cases lt : i < n1
    · refine wpAny_bind (D1.item i _ _ _ lt (D1.over st1 sa S.zf1) fun x1 hb tb q1 t1 sb => wpAny_pure (wpAny_pure ?_))
      replace sb : Heap.SameBut i1 ha hb := sb
      obtain rfl : i = n2 := by omega
      refine wpAny_bind (wpAny_bind (wpAny_holding ?_)); show wpAny _ _ (Builtin.SmallTypes.nextOf (.ref i2) >>= _) _ _ ⟨hb, gs, dr, tb, os⟩
      refine wpAny_bind (D2.done ⟨hb, gs, dr, tb, os⟩ _ _ (D2.over (D2.over st2 sa S.zf2) sb S.sep1_2) fun hd e sd he => ?_)
      exact hE hd tb e (fun c o m1 m2 m3 m4 k => sd _ _ m4 (sb.extBut _ _ m3 (sa.extBut _ _ m1 k))) he
    · obtain rfl : i = n1 := by omega
      refine wpAny_bind (D1.done ⟨ha, gs, dr, tk, os⟩ _ _ (D1.over st1 sa S.zf1) fun hd e sd he => ?_)
      exact hE hd tk e (fun c o m1 m2 m3 m4 k => sd _ _ m3 (sa.extBut _ _ m1 k)) he
theorem zq_iter {Q : Value → Shared → Prop} (hz : ZQ s.heap z TI TO v f) (h : Q (.ref z) s) : wpAny (model prog w) A (pyIter (.ref z)) Q E s := by
  have ty : s.TypeIs (.ref z) "zip" := ⟨_, hz, rfl⟩
  refine wpAny_pyIter_slot ty F.slot_zip_iter (wpAny_call_entry F.slot_zip_iter ty F.entry_zip_iter ?_ (F.args_zip_iter_1 _)); show wpAny _ A.in1 (ret (.ref z)) _ _ s
  exact wpAny_pure ⟨_, rfl, "zip", _, ty, F.slot_zip_next.lookup, h⟩
theorem zq_pyItem {Q : Option Value → Shared → Prop} (S : ZipSep2 z TI TO i1 i2 fp1 fp2) (D1 : Draws prog w A.in1 i1 fp1 n1 P1 St1) (D2 : Draws prog w A.in1 i2 fp2 n2 P2 St2) (hz : ZQ s.heap z TI TO v f) (hv : Rem v) (hI : IsTupOf2 s.heap TI (.ref i1) (.ref i2)) (hO : ∃ y1 y2, IsTupOf2 s.heap TO y1 y2) (st1 : St1 i s.heap) (st2 : St2 i s.heap) (b1 : i < n1) (b2 : i < n2)
    (hQ : ∀ x1 x2 h' tk v' f', P1 i x1 → P2 i x2 → ZQ h' z TI TO v' f' → Rem v' → (∃ y1 y2, IsTupOf2 h' TO y1 y2) → St1 (i + 1) h' → St2 (i + 1) h' → IsTupOf2 h' s.heap.objs.size x1 x2 → h'.objs.size = s.heap.objs.size + 1 → (∀ c o, c ≠ z → c ≠ TO → c ≠ i1 → c ≠ i2 → s.heap.get? c = some o → h'.get? c = some o) → Q (some (.ref s.heap.objs.size)) { s with heap := h', toks := tk }) :
    wpAny (model prog w) A (pyNext (.ref z)) Q E s := by
  have ty : s.TypeIs (.ref z) "zip" := ⟨_, hz, rfl⟩
  unfold pyNext; exact wpAny_bind (wpAny_attempt (wpAny_callSpecial?_slot (name := Str.ofString "__next__") ty F.slot_zip_next (wpAny_call_entry F.slot_zip_next ty F.entry_zip_next (zq_item S D1 D2 hz hv hI hO st1 st2 b1 b2 fun x1 x2 h' tk v' f' q1 q2 q3 q4 q5 q6 q7 q8 q9 q10 => wpAny_pure (hQ x1 x2 h' tk v' f' q1 q2 q3 q4 q5 q6 q7 q8 q9 q10)) (F.args_zip_next_1 _))))
theorem zq_pyEnd {Q : Option Value → Shared → Prop} (S : ZipSep2 z TI TO i1 i2 fp1 fp2) (D1 : Draws prog w A.in1 i1 fp1 n1 P1 St1) (D2 : Draws prog w A.in1 i2 fp2 n2 P2 St2) (hz : ZQ s.heap z TI TO v f) (hv : Rem v) (hI : IsTupOf2 s.heap TI (.ref i1) (.ref i2)) (hO : ∃ y1 y2, IsTupOf2 s.heap TO y1 y2) (st1 : St1 i s.heap) (st2 : St2 i s.heap) (b1 : i ≤ n1) (b2 : i ≤ n2) (hend : i = n1 ∨ i = n2)
    (hQ : ∀ h' tk, (∀ c o, c ≠ z → c ≠ TO → c ≠ i1 → c ≠ i2 → s.heap.get? c = some o → h'.get? c = some o) → Q none { s with heap := h', toks := tk }) : wpAny (model prog w) A (pyNext (.ref z)) Q E s := by
  have ty : s.TypeIs (.ref z) "zip" := ⟨_, hz, rfl⟩
  unfold pyNext; refine wpAny_bind (wpAny_attempt (wpAny_callSpecial?_slot (name := Str.ofString "__next__") ty F.slot_zip_next (wpAny_call_entry F.slot_zip_next ty F.entry_zip_next (zq_end S D1 D2 hz hv hI hO st1 st2 b1 b2 hend fun h' tk e hk he => ?_) (F.args_zip_next_1 _))))
  obtain ⟨o, ho, hc⟩ := he
  exact wpAny_bind (wpAny_isInstance (T := "StopIteration") (b := true) ⟨o, ho, hc⟩ isSubtype_stop (wpAny_pure (hQ _ _ hk)))
end
theorem turn_x2n {P : Program} {w : World} {K : PySem.W.Frag} {y : Str} {py : Pos} {t1 t2 : Bool} {a1 a2 z TI TO i1 i2 : Addr} (S : ZipSep2 z TI TO i1 i2 [i1, a1] [i2, a2]) (n1 : a1 ≠ i1) (n2 : a2 ≠ i2) :
    Turn P w K (.Name y py) (Itx2 K t1 t2 a1 a2) [z, TI, TO, i1, i2] z (fun i h => (∃ v f, ZQ h z TI TO v f ∧ Rem v) ∧ IsTupOf2 h TI (.ref i1) (.ref i2) ∧ (∃ y1 y2, IsTupOf2 h TO y1 y2) ∧ ItX t1 h i1 a1 i ∧ ItX t2 h i2 a2 i) where
  mem := by simp
  obj := fun i h st c hc => by
    obtain ⟨⟨v, f, hz, _⟩, hTI, ⟨y1, y2, hTO⟩, h1, h2⟩ := st
    have e' : c = z ∨ c = TI ∨ c = TO ∨ c = i1 ∨ c = i2 := by simpa using hc
    rcases e' with q | q | q | q | q
    · rw [q]; exact ⟨_, hz, fun v q => nomatch q⟩
    · rw [q]; exact ⟨_, hTI, fun v q => nomatch q⟩
    · rw [q]; exact ⟨_, hTO, fun v q => nomatch q⟩
    · rw [q]; exact h1.obj
    · rw [q]; exact h2.obj
  keep := fun i h h' st k => by
    obtain ⟨⟨v, f, hz, hv⟩, hTI, ⟨y1, y2, hTO⟩, h1, h2⟩ := st
    exact ⟨⟨v, f, k z (by simp) _ hz, hv⟩, k TI (by simp) _ hTI, ⟨y1, y2, k TO (by simp) _ hTO⟩, h1.over fun o q => k i1 (by simp) o q, h2.over fun o q => k i2 (by simp) o q⟩
  item := by
    intro X hP hw hK hc i pins s σ H E I hf st hg
    subst hP hw hK
    obtain ⟨⟨v, f, hz, hv⟩, hTI, hTO, h1, h2⟩ := st
    obtain ⟨l1, l2, x1, x2, q1, q2, g1, g2⟩ := hg
    obtain ⟨s1, r1, p1, _⟩ := srcX I q1
    obtain ⟨u1, w1, v1⟩ := r1.get g1
    obtain ⟨s2, r2, p2, _⟩ := srcX I q2
    obtain ⟨u2, w2, v2⟩ := r2.get g2
    have hh : X.A.in1.handled = none := I.ok.hd hc
    have hzl : z < s.heap.objs.size := Heap.lt_size hz
    refine zq_pyItem S (drawsX t1 hh i1 a1 n1 s1.toArray) (drawsX t2 hh i2 a2 n2 s2.toArray) hz hv hTI hTO ⟨h1, p1⟩ ⟨h2, p2⟩ (by have := (List.getElem?_eq_some_iff.mp w1).1; simpa using this) (by have := (List.getElem?_eq_some_iff.mp w2).1; simpa using this) fun z1 z2 h' tk v' f' e1 e2 z' hv' TO' k1 k2 hT hsz hk => ?_
    obtain rfl : z1 = u1 := by
      rw [List.getElem?_toArray] at e1
      exact Option.some.inj (e1.symm.trans w1)
    obtain rfl : z2 = u2 := by
      rw [List.getElem?_toArray] at e2
      exact Option.some.inj (e2.symm.trans w2)
    have new : ObjOk X.prog X.w (upd H s.heap.objs.size (.tup [x1, x2])) h' s.heap.objs.size (.tup [x1, x2]) :=
      ⟨by show 2 ≤ sizeLine; decide, [z1, z2], .cons v1 (.cons v2 .nil), ⟨_, hT, rfl, _, rfl⟩⟩
    have I1 : Inv X pins σ (upd H s.heap.objs.size (.tup [x1, x2])) { s with heap := h', toks := tk } :=
      I.turnedNew (t' := tk) (ch := [z, TI, TO, i1, i2]) (fun c o hb q => hk c o (fun q' => hb (by simp [q'])) (fun q' => hb (by simp [q'])) (fun q' => hb (by simp [q'])) (fun q' => hb (by simp [q'])) q) hf (Nat.le_refl _) new
    refine ⟨_, rfl, wpAny_pure ⟨.ref s.heap.objs.size, _, I1, rfl, ⟨_, x1, x2, rfl, I.hok.fresh (Nat.le_refl _), rfl, fun l hl => by rw [injX I hl q1]; exact g1, fun l hl => by rw [injX I hl q2]; exact g2⟩, ⟨⟨v', f', z', hv'⟩, hk _ _ S.TIz S.TITO S.TIi1 S.TIi2 hTI, TO', k1.1, k2.1⟩, fun c hcm => ?_⟩⟩
    have hlt : c < s.heap.objs.size := by
      have e' : c = z ∨ c = TI ∨ c = TO ∨ c = i1 ∨ c = i2 := by simpa using hcm
      obtain ⟨yy1, yy2, hTO⟩ := hTO
      rcases e' with q | q | q | q | q
      · rw [q]; exact hzl
      · rw [q]; exact Heap.lt_size hTI
      · rw [q]; exact Heap.lt_size hTO
      · rw [q]; obtain ⟨_, e1, _⟩ := h1.obj; exact Heap.lt_size e1
      · rw [q]; obtain ⟨_, e1, _⟩ := h2.obj; exact Heap.lt_size e1
    rw [upd_ne (Nat.ne_of_lt hlt)]
    exact (hf c hcm).1
  done := by
    intro X hP hw hK hc i pins s σ H E I hf st hg
    subst hP hw hK
    obtain ⟨⟨v, f, hz, hv⟩, hTI, hTO, h1, h2⟩ := st
    obtain ⟨l1, l2, q1, q2, b1, b2, hend⟩ := hg
    obtain ⟨s1, r1, p1, _⟩ := srcX I q1
    have c1 := r1.length
    obtain ⟨s2, r2, p2, _⟩ := srcX I q2
    have c2 := r2.length
    have hh : X.A.in1.handled = none := I.ok.hd hc
    refine zq_pyEnd S (drawsX t1 hh i1 a1 n1 s1.toArray) (drawsX t2 hh i2 a2 n2 s2.toArray) hz hv hTI hTO ⟨h1, p1⟩ ⟨h2, p2⟩ (by simp only [List.size_toArray]; omega) (by simp only [List.size_toArray]; omega) ?_ fun h' tk hk => ⟨rfl, I.turnedL (t' := tk) (ch := [z, TI, TO, i1, i2]) (fun c o hb q =>
      hk c o (fun q' => hb (by simp [q'])) (fun q' => hb (by simp [q'])) (fun q' => hb (by simp [q'])) (fun q' => hb (by simp [q'])) q) hf⟩
    simp only [List.size_toArray]
    omega
  self := fun A i s Q E st h => by
    obtain ⟨⟨v, f, hz, _⟩, _⟩ := st
    exact zq_iter hz h
theorem pi_x2n {X : Cx} {e1 e2 : Expr} {ta : TA} {p pos py : Pos} {y : Str} (hg : Gl X "zip") (hm : X.mg "zip" = none) (ha : PA X [e1, e2] ta)
    (hs : starEach [e1, e2] X.env = (false, eval e1 X.env) :: starEach [e2] X.env := by rfl) (hpl : (backTo pos (starEach [e2] X.env)).any (·.1) = false := by rfl) :
    PI X (.Name y py) (.Call (.Name "zip" p) [e1, e2] [] pos) (iX2 X.K ta) := by
  refine ⟨fun pins s σ H R I h => ?_⟩
  refine Call_ (ld_blt I hg hm PyProof.Rows.boot_zip (PyProof.Rows.callWith_type1 (thn (ha.run pos pins s σ H _ I h) fun us s1 ⟨vs, H1, I1, r1, q1⟩ => ?_) hs hpl))
  obtain ⟨t1, t2, a1, a2, l1, l2, ex, q1, q2, q⟩ := q1
  subst ex
  obtain ⟨u1, u2, rfl, ru1, ru2⟩ := valsX2 r1
  obtain rfl : u1 = Value.ref a1 := ru1
  obtain rfl : u2 = Value.ref a2 := ru2
  obtain ⟨ss1, r1, p1, lt1⟩ := srcX I1 q1
  obtain ⟨o1, B1, b1⟩ := beginsX t1 a1 ss1.toArray
  obtain ⟨ss2, r2, p2, lt2⟩ := srcX I1 q2
  obtain ⟨o2, B2, b2⟩ := beginsX t2 a2 ss2.toArray
  refine zip_begins2 B1 B2 p1 p2 fun h' hz hTI hTO g1 g2 hsz hk => wpAny_pyIter_zip hz ?_
  have I2 : Inv X pins σ H1 { s1 with heap := h' } := I1.kept (t' := s1.toks) hk
  refine ⟨s1.heap.objs.size + 4, [s1.heap.objs.size + 4, s1.heap.objs.size + 2, s1.heap.objs.size + 3, s1.heap.objs.size, s1.heap.objs.size + 1], _, _, H1, rfl, I2, turn_x2n (sepX2 _ _ _ lt1 lt2) (farX _ _ 0 lt1) (farX _ _ 1 lt2), ⟨⟨_, _, hz, .inl rfl⟩, hTI, ⟨_, _, hTO⟩, b1 _ _ g1, b2 _ _ g2⟩, fun c hcm => ?_, q⟩
  have hle : s1.heap.objs.size ≤ c := lo5 hcm
  exact I1.fpOk hle (I1.hok.fresh hle)
end Tw

/-! All numbers in one round: when. -/
namespace Tw
open PySem PySem.Spec PyProof.Rows L2
/-! ### primes -/
def Prm (q : Int) : Prop := 2 ≤ q ∧ ∀ d : Int, 0 < d → d ∣ q → d = 1 ∨ d = q
theorem prm_ex : ∀ (k : Nat) (n : Int), n.toNat ≤ k → 2 ≤ n → ∃ q, Prm q ∧ q ∣ n
  | 0, n, hk, h => by omega
  | k + 1, n, hk, h => by
    by_cases hp : ∀ d : Int, 0 < d → d ∣ n → d = 1 ∨ d = n
    · exact ⟨n, ⟨h, hp⟩, ⟨1, by omega⟩⟩
    · obtain ⟨d, hd⟩ := Classical.not_forall.mp hp
      have d0 : 0 < d := Classical.byContradiction fun z => hd fun y => absurd y z
      have d1 : d ∣ n := Classical.byContradiction fun z => hd fun _ y => absurd y z
      have d2 : ¬ (d = 1 ∨ d = n) := fun z => hd fun _ _ => z
      have d3 := Int.le_of_dvd (by omega) d1
      obtain ⟨q, hq, hqd⟩ := prm_ex k d (by omega) (by omega)
      exact ⟨q, hq, Int.dvd_trans hqd d1⟩
theorem prm_of {n : Int} (h : 2 ≤ n) : ∃ q, Prm q ∧ q ∣ n := prm_ex n.toNat n (Nat.le_refl _) h
theorem prm_cop {q x : Int} (hq : Prm q) (h : ¬ q ∣ x) : Int.gcd q x = 1 := by
  have g1 : ((Int.gcd q x : Nat) : Int) ∣ q := Int.gcd_dvd_left ..
  have g2 : ((Int.gcd q x : Nat) : Int) ∣ x := Int.gcd_dvd_right ..
  have q2 := hq.1
  have g0 : 0 < ((Int.gcd q x : Nat) : Int) := by
    have : Int.gcd q x ≠ 0 := fun z => by
      have := (Int.gcd_eq_zero_iff.mp z).1
      omega
    omega
  rcases hq.2 _ g0 g1 with e | e
  · omega
  · exact absurd (e ▸ g2) h
theorem cop_dvd {a b c : Int} (h : Int.gcd a b = 1) (d : a ∣ b * c) : a ∣ c := by
  refine Int.natAbs_dvd_natAbs.mp ?_
  have h1 := Int.natAbs_dvd_natAbs.mpr d
  rw [Int.natAbs_mul] at h1
  exact Nat.Coprime.dvd_of_dvd_mul_left (show Nat.Coprime a.natAbs b.natAbs from h) h1
theorem prm_mul {q a b : Int} (hq : Prm q) (h : q ∣ a * b) : q ∣ a ∨ q ∣ b := by
  by_cases ha : q ∣ a
  · exact .inl ha
  · exact .inr (cop_dvd (prm_cop hq ha) h)
theorem prm_pow {q a : Int} (hq : Prm q) : ∀ n : Nat, q ∣ a ^ n → q ∣ a
  | 0, h => by
    rw [Int.pow_zero] at h
    have := Int.le_of_dvd (by decide) h
    have := hq.1
    omega
  | n + 1, h => by
    rw [Int.pow_succ] at h
    rcases prm_mul hq h with h | h
    · exact prm_pow hq n h
    · exact h
theorem cop_of_prm {a b : Int} (hb : 0 < b) (h : ∀ q, Prm q → q ∣ a → q ∣ b → False) : Int.gcd a b = 1 := by
  refine Classical.byContradiction fun hn => ?_
  have g2 : ((Int.gcd a b : Nat) : Int) ∣ b := Int.gcd_dvd_right ..
  have g1 : ((Int.gcd a b : Nat) : Int) ∣ a := Int.gcd_dvd_left ..
  have : Int.gcd a b ≠ 0 := fun z => by
    have := (Int.gcd_eq_zero_iff.mp z).2
    omega
  obtain ⟨q, hq, hd⟩ := prm_of (n := ((Int.gcd a b : Nat) : Int)) (by omega)
  exact h q hq (Int.dvd_trans hd g1) (Int.dvd_trans hd g2)
/-- each prime of m divides a -/
def AllP (m a : Int) : Prop := ∀ q, Prm q → q ∣ m → q ∣ a
theorem allP_pow : ∀ (j : Nat) (m a : Int), 0 < m → m < 2 ^ j → AllP m a → m ∣ a ^ j
  | 0, m, a, h0, h1, _ => by rw [Int.pow_zero] at h1; omega
  | j + 1, m, a, h0, h1, h => by
    by_cases m1 : m = 1
    · subst m1
      exact ⟨a ^ (j + 1), by omega⟩
    · obtain ⟨q, hq, c, rfl⟩ := prm_of (n := m) (by omega)
      have q2 := hq.1
      have c0 : 0 < c := by
        rcases Int.lt_or_le 0 c with h | h
        · exact h
        · have := Int.mul_nonpos_of_nonneg_of_nonpos (show 0 ≤ q by omega) h
          omega
      have c1 : 2 * c ≤ q * c := Int.mul_le_mul_of_nonneg_right q2 (by omega)
      rw [Int.pow_succ] at h1
      have ih := allP_pow j c a c0 (by omega) (fun r hr hd => h r hr (Int.dvd_trans hd ⟨q, Int.mul_comm _ _⟩))
      obtain ⟨x, hx⟩ := ih
      obtain ⟨y, hy⟩ := h q hq ⟨c, rfl⟩
      refine ⟨x * y, ?_⟩
      rw [Int.pow_succ, hx]
      conv => lhs; rhs; rw [hy]
      grind
theorem allP_iff {m a : Int} (h0 : 0 < m) (h1 : m < 2 ^ 40) : AllP m a ↔ m ∣ a ^ 40 :=
  ⟨allP_pow 40 m a h0 h1, fun h q hq hd => prm_pow hq 40 (Int.dvd_trans hd h)⟩
/-! ### sums of powers by a number that leaves 1 -/
theorem geo_cong {a t : Int} (h : a ∣ t - 1) : ∀ n : Nat, a ∣ geo t n - n
  | 0 => ⟨0, by rw [Int.mul_zero]; rfl⟩
  | n + 1 => by
    obtain ⟨x, hx⟩ := geo_cong h n
    have hp : a ∣ t ^ n - 1 := by
      have := geo_mul t n
      obtain ⟨y, hy⟩ := h
      exact ⟨y * geo t n, by rw [← this, hy]; grind⟩
    obtain ⟨z, hz⟩ := hp
    refine ⟨x + z, ?_⟩
    show geo t n + t ^ n - ((n + 1 : Nat) : Int) = _
    rw [Int.natCast_succ]
    grind
theorem geo_comp (t : Int) (q : Nat) : ∀ k : Nat, geo t (q * k) = geo t q * geo (t ^ q) k
  | 0 => by rw [Nat.mul_zero]; show (0 : Int) = _ * 0; grind
  | k + 1 => by
    rw [Nat.mul_add, Nat.mul_one, geo_add, geo_comp t q k]
    show _ = geo t q * (geo (t ^ q) k + (t ^ q) ^ k)
    rw [← Int.pow_mul]
    grind
/-- the sum of i below n, twice -/
theorem geo_two (t : Int) : ∀ n : Nat, ∃ c : Int, 2 * geo t n = 2 * n + (t - 1) * (n * (n - 1)) + (t - 1) * (t - 1) * c
  | 0 => ⟨0, by show (2 : Int) * 0 = _; grind⟩
  | n + 1 => by
    obtain ⟨c, hc⟩ := geo_two t n
    have hp : ∃ e : Int, t ^ n = 1 + (t - 1) * n + (t - 1) * (t - 1) * e := by
      have g := geo_mul t n
      obtain ⟨d, hd⟩ := geo_cong (a := t - 1) (t := t) ⟨1, by omega⟩ n
      exact ⟨d, by
        have : geo t n = n + (t - 1) * d := by omega
        rw [this] at g
        grind⟩
    obtain ⟨e, he⟩ := hp
    refine ⟨c + 2 * e, ?_⟩
    show 2 * (geo t n + t ^ n) = _
    rw [Int.natCast_succ]
    generalize geo t n = G at *
    generalize t ^ n = T at *
    grind
/-- a prime's sum of powers: the prime once -/
theorem geo_prm {q t : Int} (hq : Prm q) (h : q ∣ t - 1) (h4 : q = 2 → 4 ∣ t - 1) : ∃ u, geo t q.toNat = q * u ∧ q ∣ u - 1 := by
  have q2 := hq.1
  have cq : ((q.toNat : Nat) : Int) = q := Int.toNat_of_nonneg (by omega)
  by_cases e2 : q = 2
  · obtain ⟨b, hb⟩ := h4 e2
    subst e2
    refine ⟨1 + 2 * b, ?_, ⟨b, by omega⟩⟩
    show 0 + t ^ 0 + t ^ 1 = _
    rw [Int.pow_zero, Int.pow_one]
    omega
  · obtain ⟨c, hc⟩ := geo_two t q.toNat
    rw [cq] at hc
    obtain ⟨x, hx⟩ := geo_cong h q.toNat
    rw [cq] at hx
    obtain ⟨b, hb⟩ := h
    refine ⟨1 + x, by grind, ?_⟩
    rw [hb] at hc
    have hz : q * (2 * x) = q * (q * (b * (q - 1) + b * b * c)) := by grind
    have hz2 : 2 * x = q * (b * (q - 1) + b * b * c) := Int.eq_of_mul_eq_mul_left (by omega) hz
    have n2 : ¬ q ∣ 2 := fun z => by
      have := Int.le_of_dvd (by decide) z
      omega
    have : q ∣ x := by
      rcases prm_mul hq (show q ∣ 2 * x from ⟨_, hz2⟩) with z | z
      · exact absurd z n2
      · exact z
    rw [show 1 + x - 1 = x by omega]
    exact this
theorem prm_prm {q r : Int} (hq : Prm q) (hr : Prm r) (h : r ∣ q) : r = q := by
  have := hr.1
  rcases hq.2 r (by omega) h with e | e
  · omega
  · exact e
theorem hd_dvd : ∀ (k : Nat) (m t : Int), m.toNat ≤ k → 0 < m → AllP m (t - 1) → (4 ∣ m → 4 ∣ t - 1) → ∀ n : Nat, m ∣ geo t n ↔ m ∣ (n : Int)
  | 0, m, t, hk, h0, _, _, n => by omega
  | k + 1, m, t, hk, h0, hA, h4, n => by
    by_cases m1 : m = 1
    · subst m1
      exact ⟨fun _ => ⟨n, by omega⟩, fun _ => ⟨geo t n, by omega⟩⟩
    · obtain ⟨q, hq, c, rfl⟩ := prm_of (n := m) (by omega)
      have q2 := hq.1
      have cq : ((q.toNat : Nat) : Int) = q := Int.toNat_of_nonneg (by omega)
      have c0 : 0 < c := by
        rcases Int.lt_or_le 0 c with h | h
        · exact h
        · have := Int.mul_nonpos_of_nonneg_of_nonpos (show 0 ≤ q by omega) h
          omega
      have c1 : 2 * c ≤ q * c := Int.mul_le_mul_of_nonneg_right q2 (by omega)
      have qa : q ∣ t - 1 := hA q hq ⟨c, rfl⟩
      have q4 : q = 2 → 4 ∣ t - 1 ∨ ¬ (2 ∣ c) := fun e => by
        by_cases hc : (2 : Int) ∣ c
        · obtain ⟨d, rfl⟩ := hc
          exact .inl (h4 (by subst e; exact ⟨d, by omega⟩))
        · exact .inr hc
      -- the case that m is twice an odd number is by itself: 2 once
      have gq : ∃ u, geo t q.toNat = q * u ∧ ∀ r, Prm r → r ∣ c → r ∣ u → False := by
        by_cases e2 : q = 2 ∧ ¬ (2 ∣ c)
        · obtain ⟨rfl, hc⟩ := e2
          obtain ⟨b, hb⟩ := qa
          refine ⟨1 + b, ?_, fun r hr hrc hru => ?_⟩
          · show 0 + t ^ 0 + t ^ 1 = _
            rw [Int.pow_zero, Int.pow_one]
            omega
          · have ra : r ∣ t - 1 := hA r hr (Int.dvd_trans hrc ⟨2, Int.mul_comm _ _⟩)
            obtain ⟨x, hx⟩ := hru
            obtain ⟨y, hy⟩ := ra
            have : r ∣ 2 := ⟨2 * x - y, by grind⟩
            have e := prm_prm hq hr this
            subst e
            exact hc hrc
        · have q4' : q = 2 → 4 ∣ t - 1 := fun e => (q4 e).resolve_right fun z => e2 ⟨e, z⟩
          obtain ⟨u, hu, hu1⟩ := geo_prm hq qa q4'
          refine ⟨u, hu, fun r hr hrc hru => ?_⟩
          have ra : r ∣ t - 1 := hA r hr (Int.dvd_trans hrc ⟨q, Int.mul_comm _ _⟩)
          have hg := geo_cong ra q.toNat
          rw [hu, cq] at hg
          have rq : r ∣ q := by
            obtain ⟨x, hx⟩ := hru
            obtain ⟨y, hy⟩ := hg
            exact ⟨q * x - y, by rw [hx] at hy; grind⟩
          have e := prm_prm hq hr rq
          subst e
          obtain ⟨x, hx⟩ := hru
          obtain ⟨y, hy⟩ := hu1
          have : r ∣ 1 := ⟨x - y, by grind⟩
          have := Int.le_of_dvd (by decide) this
          omega
      obtain ⟨u, hu, hcop⟩ := gq
      have gcu : Int.gcd c u = 1 := by
        rw [Int.gcd_comm]
        exact cop_of_prm c0 fun r hr h1 h2 => hcop r hr h2 h1
      have t1 : t - 1 ∣ t ^ q.toNat - 1 := ⟨geo t q.toNat, (geo_mul t q.toNat).symm⟩
      have ih := hd_dvd k c (t ^ q.toNat) (by omega) c0 (fun r hr hd => Int.dvd_trans (hA r hr (Int.dvd_trans hd ⟨q, Int.mul_comm _ _⟩)) t1) (fun h => Int.dvd_trans (h4 (Int.dvd_trans h ⟨q, Int.mul_comm _ _⟩)) t1)
      constructor
      · intro h
        have hqn : q ∣ (n : Int) := by
          have h1 : q ∣ geo t n := Int.dvd_trans ⟨c, rfl⟩ h
          obtain ⟨x, hx⟩ := h1
          obtain ⟨y, hy⟩ := geo_cong qa n
          exact ⟨x - y, by grind⟩
        obtain ⟨j, hj⟩ := hqn
        have j0 : 0 ≤ j := by
          rcases Int.lt_or_le j 0 with h | h
          · have := Int.mul_neg_of_pos_of_neg (show 0 < q by omega) h
            omega
          · exact h
        obtain ⟨J, rfl⟩ := Int.eq_ofNat_of_zero_le j0
        have en : n = q.toNat * J := by
          have : ((q.toNat * J : Nat) : Int) = n := by rw [Int.natCast_mul, cq, hj]
          omega
        rw [en, geo_comp, hu] at h
        have h2 : c ∣ u * geo (t ^ q.toNat) J := Int.dvd_of_mul_dvd_mul_left (show q ≠ 0 by omega) (by rw [← Int.mul_assoc]; exact h)
        obtain ⟨z, hz⟩ := (ih J).mp (cop_dvd gcu h2)
        exact ⟨z, by rw [hj, hz]; grind⟩
      · rintro ⟨z, hz⟩
        have j0 : 0 ≤ c * z := by
          rcases Int.lt_or_le (c * z) 0 with h | h
          · have := Int.mul_neg_of_pos_of_neg (show 0 < q by omega) h
            rw [← Int.mul_assoc] at this
            omega
          · exact h
        obtain ⟨J, hJ⟩ := Int.eq_ofNat_of_zero_le j0
        have en : n = q.toNat * J := by
          have : ((q.toNat * J : Nat) : Int) = n := by rw [Int.natCast_mul, cq, ← hJ, hz, Int.mul_assoc]
          omega
        rw [en, geo_comp, hu]
        obtain ⟨y, hy⟩ := (ih J).mpr ⟨z, hJ.symm⟩
        exact ⟨u * y, by rw [hy]; grind⟩
/-! ### one round of all numbers -/
def Full (t p m : Int) : Prop := (∀ n : Nat, 0 < n → (n : Int) < m → p * geo t n % m ≠ 0) ∧ p * geo t m.toNat % m = 0
def ClsR (t p m : Int) : Prop := Int.gcd p m = 1 ∧ AllP m (t - 1) ∧ (4 ∣ m → 4 ∣ t - 1)
theorem full_of {t p m : Int} (m0 : 0 < m) (h : ClsR t p m) : Full t p m := by
  obtain ⟨h1, h2, h3⟩ := h
  have key : ∀ n : Nat, p * geo t n % m = 0 ↔ m ∣ (n : Int) := fun n => by
    rw [← hd_dvd m.toNat m t (Nat.le_refl _) m0 h2 h3 n]
    constructor
    · intro h
      exact cop_dvd (by rw [Int.gcd_comm]; exact h1) (Int.dvd_of_emod_eq_zero h)
    · rintro ⟨x, hx⟩
      exact Int.emod_eq_zero_of_dvd ⟨p * x, by rw [hx]; grind⟩
  constructor
  · intro n n0 n1 h
    have := Int.le_of_dvd (by omega) ((key n).mp h)
    omega
  · exact (key m.toNat).mpr ⟨1, by omega⟩
theorem bez : ∀ (a b : Nat), ∃ x y : Int, (a : Int) * x + (b : Int) * y = (Nat.gcd a b : Nat) := by
  intro a b
  induction a, b using Nat.gcd.induction with
  | H0 n => exact ⟨0, 1, by rw [Nat.gcd_zero_left]; grind⟩
  | H1 m n hm ih =>
    obtain ⟨x, y, h⟩ := ih
    rw [Nat.gcd_rec]
    have e : (n : Int) = (m : Int) * ((n / m : Nat) : Int) + ((n % m : Nat) : Int) := by
      have := Nat.div_add_mod n m
      rw [← Int.natCast_mul, ← Int.natCast_add, this]
    exact ⟨y - ((n / m : Nat) : Int) * x, x, by rw [← h, e]; grind⟩
theorem ahd_add (t p m : Int) (a b : Nat) (x : Int) : ahd t p m (a + b) x = ahd t p m b (ahd t p m a x) := by
  unfold ahd
  have e : (t ^ b * ((t ^ a * x + p * geo t a) % m) + p * geo t b) % m = (t ^ b * (t ^ a * x + p * geo t a) + p * geo t b) % m := by
    rw [Int.add_emod, Int.mul_emod, Int.emod_emod, ← Int.mul_emod, ← Int.add_emod]
  rw [e, Nat.add_comm a b, geo_add, Int.pow_add]
  congr 1
  grind
theorem ahd_zero (t p m : Int) (n : Nat) : ahd t p m n 0 = p * geo t n % m := by
  unfold ahd
  rw [Int.mul_zero, Int.zero_add]
theorem full_surj {t p m : Int} (m0 : 0 < m) (h : Full t p m) {x : Int} (x0 : 0 ≤ x) (x1 : x < m) : ∃ n : Nat, (n : Int) < m ∧ ahd t p m n 0 = x := by
  obtain ⟨h1, h2⟩ := h
  refine Classical.byContradiction fun hn => ?_
  have hno : ∀ n : Nat, (n : Int) < m → ahd t p m n 0 ≠ x := fun n hl e => hn ⟨n, hl, e⟩
  have inj : ∀ i j : Nat, i < j → (j : Int) < m → ahd t p m i 0 ≠ ahd t p m j 0 := by
    intro i j hij hj e
    have a1 := ahd_add t p m j (m.toNat - j) 0
    rw [show j + (m.toNat - j) = m.toNat by omega, ahd_zero t p m m.toNat, h2, ← e, ← ahd_add, ahd_zero] at a1
    exact h1 (i + (m.toNat - j)) (by omega) (by omega) a1.symm
  have nd : (((List.range m.toNat).map fun n => ahd t p m n 0)).Nodup := by
    rw [List.nodup_iff_pairwise_ne, List.pairwise_map]
    refine List.Pairwise.imp_of_mem (fun {a b} ha hb hab => ?_) List.pairwise_lt_range
    exact inj a b hab (by have := List.mem_range.mp hb; omega)
  have rg : Rng m (x :: (List.range m.toNat).map fun n => ahd t p m n 0) := by
    intro y hy
    rcases List.mem_cons.mp hy with rfl | hy
    · exact ⟨x0, x1⟩
    · obtain ⟨n, _, rfl⟩ := List.mem_map.mp hy
      exact ahd_rng m0 n 0
  have nd2 : (x :: (List.range m.toNat).map fun n => ahd t p m n 0).Nodup := by
    refine List.nodup_cons.mpr ⟨fun hm => ?_, nd⟩
    obtain ⟨n, hl, e⟩ := List.mem_map.mp hm
    exact hno n (by have := List.mem_range.mp hl; omega) e
  have := int_len nd2 rg
  rw [List.length_cons, List.length_map, List.length_range] at this
  omega
theorem cls_of {t p m : Int} (m0 : 0 < m) (h : Full t p m) : ClsR t p m := by
  have sur := fun {x : Int} => full_surj m0 h (x := x)
  have dv : ∀ n : Nat, m ∣ p * geo t n - ahd t p m n 0 := fun n => by
    rw [ahd_zero]
    exact ⟨p * geo t n / m, by have := Int.mul_ediv_add_emod (p * geo t n) m; omega⟩
  have hp : Int.gcd p m = 1 := cop_of_prm m0 fun q hq h1 h2 => by
    have := hq.1
    have := Int.le_of_dvd m0 h2
    obtain ⟨n, _, e⟩ := sur (x := 1) (by decide) (by omega)
    have d := Int.dvd_trans h2 (dv n)
    rw [e] at d
    obtain ⟨x, hx⟩ := d
    obtain ⟨y, hy⟩ := h1
    have : q ∣ 1 := ⟨y * geo t n - x, by rw [hy] at hx; grind⟩
    have := Int.le_of_dvd (by decide) this
    omega
  have np : ∀ q, Prm q → q ∣ m → ¬ q ∣ p := fun q hq h1 h2 => by
    have : ((1 : Nat) : Int) = 1 := rfl
    have d : q ∣ ((Int.gcd p m : Nat) : Int) := by
      have := Int.dvd_coe_gcd h2 h1
      exact this
    rw [hp] at d
    have := Int.le_of_dvd (by decide) d
    have := hq.1
    omega
  have hA : AllP m (t - 1) := by
    intro q hq hqm
    refine Classical.byContradiction fun hn => ?_
    have q2 := hq.1
    have qm := Int.le_of_dvd m0 hqm
    have g1 := prm_cop hq hn
    obtain ⟨v, u, hb⟩ := bez q.natAbs (t - 1).natAbs
    have hg : Nat.gcd q.natAbs (t - 1).natAbs = 1 := g1
    rw [hg] at hb
    have hb2 : ∃ u v : Int, (t - 1) * u + q * v = 1 := by
      rcases Int.natAbs_eq (t - 1) with e | e
      · refine ⟨u, v, ?_⟩
        have eq : ((q.natAbs : Nat) : Int) = q := by omega
        rw [eq] at hb
        have e' : (((t - 1).natAbs : Nat) : Int) = t - 1 := e.symm
        rw [e'] at hb
        grind
      · refine ⟨-u, v, ?_⟩
        have eq : ((q.natAbs : Nat) : Int) = q := by omega
        rw [eq] at hb
        have e' : (((t - 1).natAbs : Nat) : Int) = -(t - 1) := by omega
        rw [e'] at hb
        grind
    obtain ⟨u, v, huv⟩ := hb2
    have xr := mod_bd (-p * u) (show 0 < q by omega)
    obtain ⟨n, hn, e⟩ := sur (x := -p * u % q) xr.1 (by omega)
    have xd : q ∣ ahd t p m n 0 + p * u := by
      rw [e]
      exact ⟨-(-p * u / q), by have := Int.mul_ediv_add_emod (-p * u) q; grind⟩
    have stay : ∀ j : Nat, q ∣ ahd t p m (n + j) 0 + p * u := by
      intro j
      induction j with
      | zero => exact xd
      | succ j ih =>
        rw [← Nat.add_assoc, ahd_add t p m (n + j) 1]
        obtain ⟨c, hc⟩ := ih
        generalize ahd t p m (n + j) 0 = y at *
        unfold ahd
        have g1 : geo t 1 = 1 := by show (0 : Int) + t ^ 0 = 1; rw [Int.pow_zero]; rfl
        rw [g1, Int.pow_one, Int.mul_one]
        obtain ⟨b, rfl⟩ := hqm
        have a1 := Int.mul_ediv_add_emod (t * y + p) (q * b)
        generalize (t * y + p) / (q * b) = d1 at *
        generalize (t * y + p) % (q * b) = d2 at *
        have e1 : y = q * c - p * u := by omega
        subst e1
        refine ⟨t * c + p * v - b * d1, ?_⟩
        have e2 : (t - 1) * u = 1 - q * v := by omega
        have e3 : d2 + p * u = t * (q * c - p * u) + p + p * u - q * b * d1 := by omega
        rw [e3]
        have e4 : t * (q * c - p * u) + p + p * u - q * b * d1 = t * (q * c) - p * ((t - 1) * u) + p - q * b * d1 := by grind
        rw [e4, e2]
        grind
    have l := stay (m.toNat - n)
    rw [show n + (m.toNat - n) = m.toNat by omega, ahd_zero, h.2, Int.zero_add] at l
    rcases prm_mul hq l with l | l
    · exact np q hq hqm l
    · obtain ⟨c, hc⟩ := l
      have : q ∣ 1 := ⟨(t - 1) * c + v, by rw [hc] at huv; grind⟩
      have := Int.le_of_dvd (by decide) this
      omega
  refine ⟨hp, hA, fun h4 => ?_⟩
  have m4 := Int.le_of_dvd m0 h4
  have p2 : Prm 2 := ⟨by decide, fun d d0 hd => by
    have := Int.le_of_dvd (by decide) hd
    omega⟩
  have m2 : (2 : Int) ∣ m := Int.dvd_trans ⟨2, rfl⟩ h4
  obtain ⟨b, hb⟩ := hA 2 p2 m2
  refine Classical.byContradiction fun hn => ?_
  have t3 : 4 ∣ 1 + t := by omega
  have ev : ∀ k : Nat, 4 ∣ geo t (2 * k) := fun k => by
    rw [geo_comp]
    have : geo t 2 = 1 + t := by show 0 + t ^ 0 + t ^ 1 = _; rw [Int.pow_zero, Int.pow_one]; omega
    rw [this]
    obtain ⟨c, hc⟩ := t3
    exact ⟨c * geo (t ^ 2) k, by rw [hc]; grind⟩
  obtain ⟨n, _, e⟩ := sur (x := 2) (by decide) (by omega)
  have d := Int.dvd_trans h4 (dv n)
  rw [e] at d
  obtain ⟨x, hx⟩ := d
  have hn2 : n = 2 * (n / 2) ∨ n = 1 + 2 * (n / 2) := by omega
  rcases hn2 with e2 | e2
  · obtain ⟨c, hc⟩ := ev (n / 2)
    rw [← e2] at hc
    rw [hc] at hx
    have : (4 : Int) ∣ 2 := ⟨p * c - x, by grind⟩
    have := Int.le_of_dvd (by decide) this
    omega
  · obtain ⟨c, hc⟩ := ev (n / 2)
    have g1 : geo t n = 1 + t * (4 * c) := by
      rw [e2, geo_add, hc]
      show 0 + t ^ 0 + t ^ 1 * (4 * c) = _
      rw [Int.pow_zero, Int.pow_one]
      omega
    rw [g1] at hx
    have : (2 : Int) ∣ p := ⟨1 + 2 * x - p * t * 2 * c, by grind⟩
    exact np 2 p2 m2 this
theorem full_iff {t p m : Int} (m0 : 0 < m) : Full t p m ↔ ClsR t p m := ⟨cls_of m0, full_of m0⟩
def pEach : V → V → Hp → VK → XK → Prop := fun a b H Q _ => ∃ m x : Int, a = .int m ∧ b = .int x ∧ 0 < m ∧ m ≤ 1000000000000 ∧ 0 ≤ x ∧ ∀ b : Bool, (b = true ↔ AllP m x) → Q (.bl b) H
def pOneR (K : PySem.W.Frag) : V → Hp → VK → XK → Prop := fun a H Q _ => ∃ (r : Addr) (t p m : Int), a = .ref r ∧ SqT K H r [.int t, .int p, .int m] ∧ Rule t p m ∧ ∀ b : Bool, (b = true ↔ ClsR t p m) → Q (.bl b) H
def pGoes (K : PySem.W.Frag) : V → Hp → VK → XK → Prop := fun a H Q _ => ∃ (r : Addr) (t p m : Int), a = .ref r ∧ SqT K H r [.int t, .int p, .int m] ∧ Rule t p m ∧ ∀ b : Bool, (b = true ↔ Full t p m) → Q (.bl b) H
theorem allP_mod {m x : Int} : AllP m (x % m) ↔ AllP m x := by
  constructor
  · intro h q hq hd
    obtain ⟨c, hc⟩ := h q hq hd
    obtain ⟨d, hd⟩ := hd
    have := Int.mul_ediv_add_emod x m
    exact ⟨d * (x / m) + c, by generalize x / m = y at *; generalize x % m = z at *; subst hd; grind⟩
  · intro h q hq hd
    obtain ⟨c, hc⟩ := h q hq hd
    obtain ⟨d, hd⟩ := hd
    have := Int.mul_ediv_add_emod x m
    exact ⟨c - d * (x / m), by generalize x / m = y at *; generalize x % m = z at *; subst hd; grind⟩
theorem iff_eq {a b : Bool} {P : Prop} (h : a = true ↔ P) (k : b = true ↔ P) : a = b := by
  cases a with
  | true => exact (k.mpr (h.mp rfl)).symm
  | false =>
    cases b with
    | false => rfl
    | true => exact absurd (h.mpr (k.mp rfl)) Bool.false_ne_true
end Tw

/-! Rounds as a whole. -/
namespace Tw
open PySem PySem.Spec PyProof.Rows L2
/-- from s: j numbers ahead of a round of c -/
structure Rho (f : Int → Int) (s : Int) (j c : Nat) : Prop where
  pos : 0 < c
  ret : itr f (j + c) s = itr f j s
  one : ∀ a b, a < j + c → b < j + c → itr f a s = itr f b s → a = b
section
variable {f : Int → Int} {s : Int} {j c : Nat}
theorem Rho.uniq {i d : Nat} (h : Rho f s j c) (g : Rho f s i d) : j = i ∧ c = d := by
  have h0 := h.pos
  have g0 := g.pos
  have e : j + c = i + d := by
    rcases Nat.lt_trichotomy (j + c) (i + d) with l | l | l
    · have := g.one _ _ l (by omega) h.ret
      omega
    · exact l
    · have := h.one _ _ l (by omega) g.ret
      omega
  have r1 := h.ret
  have r2 := g.ret
  rw [e] at r1
  have := h.one j i (by omega) (by omega) (r1.symm.trans r2)
  omega
theorem Rho.nd (h : Rho f s j c) : (([] : List Int) ++ orb f (j + c) s).Nodup := by
  rw [List.nil_append]
  unfold orb
  rw [List.nodup_iff_pairwise_ne, List.pairwise_map]
  refine List.Pairwise.imp_of_mem (fun {a b} ha hb l e => ?_) (List.pairwise_lt_range (n := j + c))
  rw [List.mem_range] at ha hb
  have := h.one a b ha hb e
  omega
theorem rho_of_per {x : Int} {L : Nat} (h : Per f L x) : Rho f x 0 L := by
  obtain ⟨h0, h1, h2⟩ := h
  have key : ∀ a b, a < b → b < L → itr f a x ≠ itr f b x := fun a b l lb e => by
    have e2 := congrArg (itr f (L - b)) e
    rw [← itr_add, ← itr_add, show L - b + b = L by omega, h1] at e2
    exact h2 (L - b + a) (by omega) (by omega) e2
  refine ⟨h0, by rw [Nat.zero_add]; exact h1, fun a b ha hb e => ?_⟩
  rcases Nat.lt_trichotomy a b with l | l | l
  · exact absurd e (key a b l (by omega))
  · exact l
  · exact absurd e.symm (key b a l (by omega))
theorem per_of_rho {x : Int} {L : Nat} (h : Rho f x 0 L) : Per f L x := by
  refine ⟨h.pos, ?_, fun d d1 d0 e => ?_⟩
  · have := h.ret
    rw [Nat.zero_add] at this
    exact this
  · have := h.one d 0 (by omega) (by have := h.pos; omega) e
    omega
theorem Rho.per (h : Rho f s j c) {k : Nat} (hk : j ≤ k) : Per f c (itr f k s) := by
  have h0 := h.pos
  obtain ⟨i, i1, i2, i3⟩ := cyc_in (f := f) (n := j + c) (j := j) (x := s) (by omega) h.ret k hk
  rw [i3]
  have := walk_cyc h.nd (by omega) h.ret i1 i2
  rw [show j + c - j = c by omega] at this
  exact this
theorem Rho.shift (h : Rho f s j c) (k : Nat) : Rho f (itr f k s) (j - k) c := by
  by_cases l : j ≤ k
  · rw [show j - k = 0 by omega]
    exact rho_of_per (h.per l)
  · refine ⟨h.pos, ?_, fun a b ha hb e => ?_⟩
    · rw [← itr_add, ← itr_add, show j - k + c + k = j + c by omega, show j - k + k = j by omega]
      exact h.ret
    · rw [← itr_add, ← itr_add] at e
      have := h.one _ _ (by omega) (by omega) e
      omega
theorem Rho.mod (h : Rho f s j c) {k : Nat} (hk : j ≤ k) : itr f k s = itr f (j + (k - j) % c) s := by
  have h0 := h.pos
  induction k using Nat.strongRecOn with
  | ind k ih =>
    by_cases l : k - j < c
    · rw [Nat.mod_eq_of_lt l, show j + (k - j) = k by omega]
    · have e := ih (k - c) (by omega) (by omega)
      rw [Nat.mod_eq_sub_mod (by omega), show k - j - c = k - c - j by omega, ← e]
      have := cyc_step (f := f) (n := j + c) (j := j) (x := s) (by omega) h.ret (i := k - c) (by omega)
      rw [show k - c + (j + c - j) = k by omega] at this
      exact this
end
/-! ### the walk from a start -/
theorem rnd_rho {t p m s : Int} (m0 : 0 < m) (s0 : 0 ≤ s) (s1 : s < m) : ∃ j c : Nat, Rho (stp t p m) s j c ∧ j + c ≤ m.toNat ∧ rndW t p m s = (orb (stp t p m) (j + c) s, itr (stp t p m) (j + c) s) ∧ rndT t p m s = j ∧ rndL t p m s = c := by
  obtain ⟨n, hn, ew⟩ := wk_form (stp t p m) (m.toNat + 1) [] s
  have W := wk_good (t := t) (p := p) m0 (m.toNat + 1) [] s List.nodup_nil (fun x hx => by cases hx) ⟨s0, s1⟩ (by simp)
  rw [ew] at W
  obtain ⟨nd, rg, hy⟩ := W
  have nl := int_len nd rg
  rw [show (([] ++ orb (stp t p m) n s, itr (stp t p m) n s) : List Int × Int).1 = orb (stp t p m) n s from List.nil_append _, orb_len] at nl
  obtain ⟨jn, ej⟩ := orb_idx (f := stp t p m) (n := n) (x := s) (y := itr (stp t p m) n s) (by simpa using hy)
  generalize hj : (orb (stp t p m) n s).idxOf (itr (stp t p m) n s) = j at jn ej
  have eW : rndW t p m s = (orb (stp t p m) n s, itr (stp t p m) n s) := by
    unfold rndW
    rw [ew, List.nil_append]
  have eT : rndT t p m s = j := by
    unfold rndT
    rw [eW]
    exact congrArg Int.ofNat hj
  refine ⟨j, n - j, ⟨by omega, ?_, fun a b ha hb e => ?_⟩, by omega, ?_, eT, ?_⟩
  · rw [show j + (n - j) = n by omega]
    exact ej.symm
  · exact orb_inj nd (i := a) (j := b) (by omega) (by omega) e
  · rw [show j + (n - j) = n by omega]
    exact eW
  · unfold rndL
    rw [eT, eW]
    show ((orb (stp t p m) n s).length : Int) - j = _
    rw [orb_len]
    omega
theorem rho_rnd {t p m s : Int} {j c : Nat} (m0 : 0 < m) (s0 : 0 ≤ s) (s1 : s < m) (h : Rho (stp t p m) s j c) : rndT t p m s = j ∧ rndL t p m s = c ∧ rndW t p m s = (orb (stp t p m) (j + c) s, itr (stp t p m) (j + c) s) := by
  obtain ⟨i, d, g, _, e1, e2, e3⟩ := rnd_rho (t := t) (p := p) m0 s0 s1
  obtain ⟨rfl, rfl⟩ := h.uniq g
  exact ⟨e2, e3, e1⟩
theorem stV_in {t p m s : Int} {j c k : Nat} (m0 : 0 < m) (s0 : 0 ≤ s) (s1 : s < m) (h : Rho (stp t p m) s j c) (hk : k < j + c) : stV t p m s (itr (stp t p m) k s) = .int k := by
  obtain ⟨_, _, e⟩ := rho_rnd m0 s0 s1 h
  unfold stV
  rw [e]
  have hm : itr (stp t p m) k s ∈ orb (stp t p m) (j + c) s := orb_mem.mpr ⟨k, hk, rfl⟩
  show (if itr (stp t p m) k s ∈ orb (stp t p m) (j + c) s then V.int (((orb (stp t p m) (j + c) s).idxOf (itr (stp t p m) k s) : Nat) : Int) else .non) = _
  rw [if_pos hm]
  obtain ⟨h1, h2⟩ := orb_idx hm
  rw [h.one _ _ h1 hk h2]
theorem stV_out {t p m s x : Int} {j c : Nat} (m0 : 0 < m) (s0 : 0 ≤ s) (s1 : s < m) (h : Rho (stp t p m) s j c) (hx : ∀ k, k < j + c → itr (stp t p m) k s ≠ x) : stV t p m s x = .non := by
  obtain ⟨_, _, e⟩ := rho_rnd m0 s0 s1 h
  unfold stV
  rw [e]
  refine if_neg fun z => ?_
  obtain ⟨k, k1, k2⟩ := orb_mem.mp z
  exact hx k k1 k2
theorem itr_ahd {t p m : Int} {x : Int} (x0 : 0 ≤ x) (x1 : x < m) : ∀ n, itr (stp t p m) n x = ahd t p m n x
  | 0 => by
    unfold ahd
    show x = (t ^ 0 * x + p * 0) % m
    rw [Int.pow_zero, Int.one_mul, Int.mul_zero, Int.add_zero, Int.emod_eq_of_lt x0 x1]
  | n + 1 => by
    show stp t p m (itr (stp t p m) n x) = _
    rw [itr_ahd x0 x1 n, ahd_add t p m n 1]
    generalize ahd t p m n x = y
    unfold ahd stp
    have g1 : geo t 1 = 1 := by show (0 : Int) + t ^ 0 = 1; rw [Int.pow_zero]; rfl
    rw [g1, Int.pow_one, Int.mul_one]
/-! ### each number of rounds goes into its numbers -/
theorem cover {t p m : Int} (m0 : 0 < m) : ∀ l : List Int, Rng m l → ∃ ws, ws.Nodup ∧ Rng m ws ∧ Fcl (stp t p m) ws ∧ (∀ x ∈ l, x ∈ ws) ∧ ∀ L, L ∣ pcnt (stp t p m) ws L
  | [], _ => ⟨[], List.nodup_nil, (fun x hx => by cases hx), (fun x hx => by cases hx), (fun x hx => by cases hx), fun L => ⟨0, by show 0 = L * 0; omega⟩⟩
  | x :: l, h => by
    obtain ⟨ws, nd, rg, fc, cov, dv⟩ := cover (t := t) (p := p) m0 l fun y hy => h y (List.mem_cons_of_mem _ hy)
    have xr := h x List.mem_cons_self
    have W := wk_good (t := t) (p := p) m0 (m.toNat + 1) ws x nd rg xr (by omega)
    obtain ⟨n, hn, ew⟩ := wk_form (stp t p m) (m.toNat + 1) ws x
    rw [ew] at W
    obtain ⟨nd2, rg2, hy⟩ := W
    have nd2' : (ws ++ orb (stp t p m) n x).Nodup := nd2
    have hy' : itr (stp t p m) n x ∈ ws ++ orb (stp t p m) n x := hy
    refine ⟨ws ++ orb (stp t p m) n x, nd2, rg2, fcl_walk fc hy', fun y hym => ?_, fun L => ?_⟩
    · rcases List.mem_cons.mp hym with e | e
      · rw [e]
        cases n with
        | zero => exact hy'
        | succ n => exact List.mem_append_right _ (orb_mem.mpr ⟨0, by omega, rfl⟩)
      · exact List.mem_append_left _ (cov y e)
    · rcases List.mem_append.mp hy' with c | c
      · rw [pcnt_old nd2' fc c L]
        exact dv L
      · obtain ⟨i, hi, e⟩ := orb_mem.mp c
        rw [pcnt_new nd2' hi e.symm L]
        refine Nat.dvd_add (dv L) ?_
        by_cases z : L = n - i
        · rw [if_pos z, z]
          exact Nat.dvd_refl _
        · rw [if_neg z]
          exact Nat.dvd_zero _
theorem nper_dvd {t p m : Int} (m0 : 0 < m) (L : Nat) : L ∣ Nper (stp t p m) m L := by
  obtain ⟨ws, nd, rg, fc, cov, dv⟩ := cover (t := t) (p := p) m0 (alls m) fun x hx => alls_mem.mp hx
  rw [← nper_of nd rg (fun x x0 x1 _ => cov x (alls_mem.mpr ⟨x0, x1⟩)) L]
  exact dv L
/-! ### all numbers of rounds -/
open Classical in
noncomputable def Pall (f : Int → Int) (m : Int) : Nat := (alls m).countP fun x => decide (∃ L, Per f L x)
open Classical in
theorem pcnt_sum {f : Int → Int} {m : Int} : ∀ {zs : List (Int × Int)}, zs.Pairwise (fun y z => y.1 < z.1) → (∀ z ∈ zs, 0 ≤ z.1) → (zs.map fun z => ((Nper f m z.1.toNat : Nat) : Int)).sum = (((alls m).countP fun x => decide (∃ z ∈ zs, Per f z.1.toNat x) : Nat) : Int)
  | [], _, _ => by
    rw [List.countP_eq_zero.mpr]
    · rfl
    · intro x _
      simp
  | z :: zs, up, h0 => by
    rw [List.pairwise_cons] at up
    have ih := pcnt_sum (f := f) (m := m) up.2 fun y hy => h0 y (List.mem_cons_of_mem _ hy)
    rw [List.map_cons, List.sum_cons, ih]
    unfold Nper pcnt
    generalize alls m = l
    induction l with
    | nil => rfl
    | cons x l il =>
      rw [List.countP_cons, List.countP_cons, List.countP_cons]
      have e : (if decide (∃ y, y ∈ z :: zs ∧ Per f y.1.toNat x) = true then 1 else 0) = (if decide (Per f z.1.toNat x) = true then 1 else 0) + (if decide (∃ y, y ∈ zs ∧ Per f y.1.toNat x) = true then 1 else 0 : Nat) := by
        by_cases a : Per f z.1.toNat x
        · have b : ¬ ∃ y, y ∈ zs ∧ Per f y.1.toNat x := fun ⟨y, hy, hp⟩ => by
            have := per_uniq a hp
            have := up.1 y hy
            have := h0 z List.mem_cons_self
            have := h0 y (List.mem_cons_of_mem _ hy)
            omega
          have i1 : (if decide (Per f z.1.toNat x) = true then 1 else 0 : Nat) = 1 := if_pos (decide_eq_true a)
          have i2 : (if decide (∃ y, y ∈ zs ∧ Per f y.1.toNat x) = true then 1 else 0 : Nat) = 0 := if_neg fun k => b (of_decide_eq_true k)
          have i3 : (if decide (∃ y, y ∈ z :: zs ∧ Per f y.1.toNat x) = true then 1 else 0 : Nat) = 1 := if_pos (decide_eq_true ⟨z, List.mem_cons_self, a⟩)
          rw [i1, i2, i3]
        · have i1 : (if decide (Per f z.1.toNat x) = true then 1 else 0 : Nat) = 0 := if_neg fun k => a (of_decide_eq_true k)
          by_cases b : ∃ y, y ∈ zs ∧ Per f y.1.toNat x
          · have i2 : (if decide (∃ y, y ∈ zs ∧ Per f y.1.toNat x) = true then 1 else 0 : Nat) = 1 := if_pos (decide_eq_true b)
            have i3 : (if decide (∃ y, y ∈ z :: zs ∧ Per f y.1.toNat x) = true then 1 else 0 : Nat) = 1 := by
              obtain ⟨y, hy, hp⟩ := b
              exact if_pos (decide_eq_true ⟨y, List.mem_cons_of_mem _ hy, hp⟩)
            rw [i1, i2, i3]
          · have i2 : (if decide (∃ y, y ∈ zs ∧ Per f y.1.toNat x) = true then 1 else 0 : Nat) = 0 := if_neg fun k => b (of_decide_eq_true k)
            have i3 : (if decide (∃ y, y ∈ z :: zs ∧ Per f y.1.toNat x) = true then 1 else 0 : Nat) = 0 := if_neg fun k => by
              obtain ⟨y, hy, hp⟩ := of_decide_eq_true k
              rcases List.mem_cons.mp hy with e | e
              · rw [e] at hp
                exact a hp
              · exact b ⟨y, e, hp⟩
            rw [i1, i2, i3]
      rw [e]
      omega
open Classical in
theorem Rds.sum {t p m : Int} {zs : List (Int × Int)} (m0 : 0 < m) (h : Rds (stp t p m) m zs) : (zs.map fun z => z.1 * z.2).sum = ((Pall (stp t p m) m : Nat) : Int) := by
  have key : ∀ z ∈ zs, 0 ≤ z.1 ∧ z.1 * z.2 = ((Nper (stp t p m) m z.1.toNat : Nat) : Int) := fun z hz => by
    obtain ⟨n, e1, e2, e3⟩ := (h.mem z.1 z.2).mp hz
    rw [e1, e3]
    refine ⟨by omega, ?_⟩
    unfold Crnd
    rw [show ((n : Int)).toNat = n by omega, ← Int.natCast_mul, Nat.mul_div_cancel' (nper_dvd m0 n)]
  rw [List.map_congr_left (fun z hz => (key z hz).2), pcnt_sum h.up fun z hz => (key z hz).1]
  unfold Pall
  refine congrArg Int.ofNat (List.countP_congr fun x hx => ?_)
  simp only [decide_eq_true_eq]
  constructor
  · rintro ⟨z, hz, hp⟩
    exact ⟨_, hp⟩
  · rintro ⟨L, hp⟩
    refine ⟨((L : Int), Crnd (stp t p m) m L), (h.mem _ _).mpr ⟨L, rfl, pcnt_pos.mpr ⟨x, hx, hp⟩, rfl⟩, ?_⟩
    rw [show ((L : Int)).toNat = L by omega]
    exact hp
/-- what m steps lead to is what comes again -/
theorem far_per {t p m x : Int} (m0 : 0 < m) : (0 ≤ x ∧ x < m ∧ ∃ L, Per (stp t p m) L x) ↔ ∃ y, 0 ≤ y ∧ y < m ∧ itr (stp t p m) m.toNat y = x := by
  constructor
  · rintro ⟨x0, x1, L, h⟩
    refine ⟨itr (stp t p m) (L * m.toNat - m.toNat) x, (itr_rng m0 ⟨x0, x1⟩ _).1, (itr_rng m0 ⟨x0, x1⟩ _).2, ?_⟩
    have le : m.toNat ≤ L * m.toNat := Nat.le_mul_of_pos_left _ h.1
    rw [← itr_add, show m.toNat + (L * m.toNat - m.toNat) = L * m.toNat by omega]
    exact itr_fix h.2.1 _
  · rintro ⟨y, y0, y1, rfl⟩
    have r := itr_rng (t := t) (p := p) m0 ⟨y0, y1⟩ m.toNat
    obtain ⟨j, c, h, hl, _⟩ := rnd_rho (t := t) (p := p) m0 y0 y1
    exact ⟨r.1, r.2, c, h.per (by omega)⟩
open Classical in
theorem pall_len {t p m : Int} (m0 : 0 < m) {ks : List Int} (nd : ks.Nodup) (h : ∀ k, k ∈ ks ↔ ∃ y, 0 ≤ y ∧ y < m ∧ itr (stp t p m) m.toNat y = k) : ks.length = Pall (stp t p m) m := by
  unfold Pall
  rw [List.countP_eq_length_filter]
  refine List.Perm.length_eq ((List.perm_ext_iff_of_nodup nd ((alls_nodup m).filter _)).mpr fun x => ?_)
  rw [h x, ← far_per m0, List.mem_filter, alls_mem]
  simp only [decide_eq_true_eq]
  exact ⟨fun z => ⟨⟨z.1, z.2.1⟩, z.2.2⟩, fun z => ⟨z.1.1, z.1.2, z.2⟩⟩
/-! ### one round of all -/
theorem full_per {t p m : Int} (m0 : 0 < m) : Full t p m ↔ Per (stp t p m) m.toNat 0 := by
  have e := fun n => itr_ahd (t := t) (p := p) (m := m) (x := 0) (Int.le_refl 0) m0 n
  unfold Full Per
  constructor
  · rintro ⟨h1, h2⟩
    refine ⟨by omega, by rw [e, ahd_zero]; exact h2, fun j j1 j0 => ?_⟩
    rw [e, ahd_zero]
    exact h1 j j0 (by omega)
  · rintro ⟨h0, h1, h2⟩
    rw [e, ahd_zero] at h1
    refine ⟨fun n n0 n1 => ?_, h1⟩
    have := h2 n (by omega) n0
    rw [e, ahd_zero] at this
    exact this
theorem per_all {t p m x : Int} (m0 : 0 < m) (x0 : 0 ≤ x) (x1 : x < m) (h : Per (stp t p m) m.toNat x) {y : Int} (y0 : 0 ≤ y) (y1 : y < m) : Per (stp t p m) m.toNat y := by
  have r := rho_of_per h
  have nd : (orb (stp t p m) m.toNat x).Nodup := by
    have := r.nd
    rw [Nat.zero_add, List.nil_append] at this
    exact this
  have hm : y ∈ orb (stp t p m) m.toNat x := sub_eq nd (k := alls m) (fun z hz => by
    obtain ⟨i, _, rfl⟩ := orb_mem.mp hz
    exact alls_mem.mpr (itr_rng m0 ⟨x0, x1⟩ i)) (by rw [orb_len, alls_len]) (alls_mem.mpr ⟨y0, y1⟩)
  obtain ⟨i, _, rfl⟩ := orb_mem.mp hm
  exact r.per (Nat.zero_le i)
theorem one_rds {t p m : Int} {zs : List (Int × Int)} (m0 : 0 < m) (h : Rds (stp t p m) m zs) : ClsR t p m ↔ zs = [(m, 1)] := by
  rw [← full_iff m0, full_per m0]
  constructor
  · intro hp
    have all : ∀ y, 0 ≤ y → y < m → Per (stp t p m) m.toNat y := fun y y0 y1 => per_all m0 (Int.le_refl 0) m0 hp y0 y1
    have e : ∀ L, Nper (stp t p m) m L = if L = m.toNat then m.toNat else 0 := fun L => by
      rw [nper_g (fun _ => m.toNat) (fun x hx => all x (alls_mem.mp hx).1 (alls_mem.mp hx).2) L]
      by_cases c : L = m.toNat
      · rw [if_pos c, List.countP_eq_length.mpr (fun x _ => decide_eq_true c.symm), alls_len]
      · rw [if_neg c, List.countP_eq_zero]
        intro x _
        simp only [decide_eq_true_eq]
        exact fun z => c z.symm
    have em : ((m.toNat : Nat) : Int) = m := by omega
    refine h.uniq ⟨by simp, fun L c => ?_⟩
    have ec : Crnd (stp t p m) m m.toNat = 1 := by
      unfold Crnd
      rw [e, if_pos rfl, Nat.div_self (by omega)]
      rfl
    constructor
    · intro hz
      obtain ⟨rfl, rfl⟩ := Prod.mk.inj (List.mem_singleton.mp hz)
      exact ⟨L.toNat, em.symm, by rw [e, if_pos rfl]; omega, ec.symm⟩
    · rintro ⟨n, rfl, hn, rfl⟩
      rw [e] at hn
      by_cases c : n = m.toNat
      · rw [c, ec, em]
        exact List.mem_singleton.mpr rfl
      · rw [if_neg c] at hn
        omega
  · rintro rfl
    obtain ⟨n, e1, e2, _⟩ := (h.mem m 1).mp (List.mem_singleton.mpr rfl)
    obtain ⟨x, hx, hp⟩ := pcnt_pos.mp e2
    obtain ⟨x0, x1⟩ := alls_mem.mp hx
    rw [show n = m.toNat by omega] at hp
    exact per_all m0 x0 x1 hp (Int.le_refl 0) m0
theorem rds_len {t p m : Int} {zs : List (Int × Int)} (h : Rds (stp t p m) m zs) {c : Nat} {x : Int} (x0 : 0 ≤ x) (x1 : x < m) (hp : Per (stp t p m) c x) : (c : Int) ∈ zs.map (·.1) :=
  List.mem_map.mpr ⟨_, (h.mem c _).mpr ⟨c, rfl, pcnt_pos.mpr ⟨x, alls_mem.mpr ⟨x0, x1⟩, hp⟩, rfl⟩, rfl⟩
/-! ### pairs that are alike -/
theorem eqv_pairs : ∀ {zs ys : List (Int × Int)}, PyData.eqvAll (zs.map fun z => .tuple [.int z.1, .int z.2]) (ys.map fun z => .tuple [.int z.1, .int z.2]) = true → zs = ys
  | [], [], _ => rfl
  | [], y :: ys, h => by simp [PyData.eqvAll] at h
  | z :: zs, [], h => by simp [PyData.eqvAll] at h
  | z :: zs, y :: ys, h => by
    simp [PyData.eqvAll, PyData.eqv] at h
    have e2 : zs = ys := eqv_pairs h.2
    rw [e2]
    refine congrArg (· :: ys) (Prod.ext ?_ ?_)
    · exact h.1.1
    · exact h.1.2
theorem eqv_dp {zs ys : List (Int × Int)} : PyData.eqv (dPairs zs) (dPairs ys) = true ↔ zs = ys := by
  constructor
  · intro h
    unfold dPairs at h
    simp only [PyData.eqv] at h
    exact eqv_pairs h
  · rintro rfl
    exact eqv_self (shp_pairs _)
end Tw

/-! len(set), defs of four arguments, pairs in comprehensions; promises of law 10. -/
namespace Tw
open PySem PySem.Spec PyProof.Rows L2
/-- len(a set of ints) -/
def rLenSet (w : World) : List V → Hp → VK → Prop := fun vs H Q => ∃ (a : Addr) (S : Int → Bool) (n : Nat), vs = [V.ref a] ∧ H a = some (SetO w a S n) ∧ ∀ ks : List Int, ks.Nodup → (∀ k : Int, k ∈ ks ↔ S k = true) → Q (.int ks.length) H
theorem cr_lenSet {X : Cx} : CallR X (.builtin "len") (rLenSet X.w) := by
  intro pins s σ H vs us Q I r h
  obtain ⟨a, S, n, rfl, ha, q⟩ := h
  obtain ⟨o, es, ep, t, ho, hex, hd, g, nd, hm, hb, hf, hn, hr, hl⟩ := setO_get I ha
  rw [Vals.ref1 r]
  have lt : es.size < 4096 := hb
  have e : (es.toList.map keyOf).length = es.size := by rw [List.length_map, Array.length_toList]
  refine call_len_set ho hex hd hf (by omega) ⟨.int es.size, H, I.tok _, ⟨_, rfl⟩, ?_⟩
  rw [← e]
  exact q _ nd fun k => (hm k).symm
section
variable {P : Program} {w : World} {K : PySem.W.Frag} {mg : Str → Option Value} {base : Heap} {x : Str} {st : Stmt} {N : List Str} {k : Nat}
theorem Top.ok4 {a b c d : Str} {p : V → V → V → V → Hp → VK → XK → Prop} (D : Top K mg x st [a, b, c, d]) (S : FnScope N [a, b, c, d] (defScope st))
    (hbody : ∀ (f : Addr) (cdv : Value) (A : Around) (outer : List Env) (s : Shared) (H : Hp) (v1 v2 v3 v4 : V) (Q : VK) (E : XK), Room k (A.deeper (envOfC x (defScope st) s.heap.objs.size f cdv)) → p v1 v2 v3 v4 H Q E →
      ∃ t, PSs (cxOf CX0 P w K mg base N x (defScope st) f cdv A outer s H E).nox (defBody st) t ∧ t { nx := fun _ H' => Q .non H', rt := Q } (start N [v1, v2, v3, v4]) H) : Has P w K mg base CX0 (k + 1) x [a, b, c, d] (sp4 p) :=
  D.ok S (fun vs H Q E h => by obtain ⟨_, _, _, _, rfl, _⟩ := h; rfl) (fun f cdv A outer s H vs Q E hr h => by obtain ⟨v1, v2, v3, v4, rfl, h⟩ := h; exact hbody f cdv A outer s H v1 v2 v3 v4 Q E hr h)
end
def pStart10 (K : PySem.W.Frag) : V → V → V → V → Hp → VK → XK → Prop := fun a b c e H Q _ => ∃ (d : Addr) (n : Nat) (r : Addr) (t p m s : Int) (q : Addr) (ps : List (Addr × (Int × Int))), a = .ref d ∧ b = .ref r ∧ c = .int s ∧ e = .ref q ∧ Deck H d n ∧ n + 2 ≤ 100000000 ∧ H r = some (.tup [.int t, .int p, .int m]) ∧ Rule t p m ∧ m ≤ 2000 ∧ 0 ≤ s ∧ s < m ∧
  TupP H q ps ∧ Rds (stp t p m) m (ps.map (·.2)) ∧ ∀ H', But d H H' → Deck H' d (n + 2) → Q (.bl true) H'
end Tw
namespace Tw
open PySem PySem.Spec PyProof.Rows L2
theorem per_le {t p m x : Int} {L : Nat} (m0 : 0 < m) (x0 : 0 ≤ x) (x1 : x < m) (h : Per (stp t p m) L x) : L ≤ m.toNat := by
  have nd := (rho_of_per h).nd
  rw [Nat.zero_add, List.nil_append] at nd
  have := int_len nd fun z hz => by
    obtain ⟨i, _, rfl⟩ := orb_mem.mp hz
    exact itr_rng m0 ⟨x0, x1⟩ i
  rw [orb_len] at this
  exact this
theorem rds_short {t p m : Int} {zs : List (Int × Int)} (m0 : 0 < m) (h : Rds (stp t p m) m zs) : zs.length ≤ (m + 1).toNat := by
  have nd : (zs.map (·.1)).Nodup := by
    refine up_nodup ?_
    rw [List.pairwise_map]
    exact h.up
  have := int_len (m := m + 1) nd fun L hL => by
    obtain ⟨z, hz, rfl⟩ := List.mem_map.mp hL
    obtain ⟨n, e1, e2, _⟩ := (h.mem z.1 z.2).mp hz
    obtain ⟨x, hx, hp⟩ := pcnt_pos.mp e2
    obtain ⟨x0, x1⟩ := alls_mem.mp hx
    have := per_le m0 x0 x1 hp
    rw [e1]
    omega
  rw [List.length_map] at this
  exact this
end Tw
namespace Tw
open PySem PySem.Spec PyProof.Rows L2
theorem TupP.but {H H' : Hp} {q d : Addr} {n : Nat} {ps : List (Addr × (Int × Int))} (h : TupP H q ps) (D : Deck H d n) (b : But d H H') : TupP H' q ps :=
  ⟨b _ _ (D.ne_tup h.1) h.1, fun z hz => b _ _ (D.ne_tup (h.2 z hz)) (h.2 z hz)⟩
theorem rds_bd {t p m : Int} {zs : List (Int × Int)} (m0 : 0 < m) (h : Rds (stp t p m) m zs) {z : Int × Int} (hz : z ∈ zs) : (0 ≤ z.1 ∧ z.1 ≤ m) ∧ 0 ≤ z.2 ∧ z.2 ≤ m := by
  obtain ⟨n, e1, e2, e3⟩ := (h.mem z.1 z.2).mp hz
  obtain ⟨x, hx, hp⟩ := pcnt_pos.mp e2
  obtain ⟨x0, x1⟩ := alls_mem.mp hx
  have l1 := per_le m0 x0 x1 hp
  have l2 : Nper (stp t p m) m n ≤ (alls m).length := List.countP_le_length
  have l3 := Nat.div_le_self (Nper (stp t p m) m n) n
  rw [alls_len] at l2
  rw [e1, e3]
  unfold Crnd
  generalize Nper (stp t p m) m n / n = qq at l3 ⊢
  omega
theorem one_bool {t p m : Int} {zs : List (Int × Int)} {b : Bool} (m0 : 0 < m) (h : Rds (stp t p m) m zs) (hb : b = true ↔ ClsR t p m) : b = PyData.eqv (dPairs zs) (dPairs [(m, 1)]) :=
  Bool.eq_iff_iff.mpr (hb.trans ((one_rds m0 h).trans eqv_dp.symm))
end Tw

/-! How often a list of whole numbers stands among lists; classes by a row's own numbers. -/
namespace Tw
open PySem PySem.Spec PyProof.Rows L2
def RowsL (H : Hp) : List Addr → List (List Int) → Prop
  | [], [] => True
  | a :: ps, z :: rs => H a = some (.lst (z.map V.int)) ∧ RowsL H ps rs
  | _, _ => False
theorem RowsL.imp {H H' : Hp} (k : ∀ a (z : List Int), H a = some (.lst (z.map V.int)) → H' a = some (.lst (z.map V.int))) : ∀ {ps : List Addr} {rs : List (List Int)}, RowsL H ps rs → RowsL H' ps rs
  | [], [], _ => True.intro
  | _ :: _, _ :: _, h => ⟨k _ _ h.1, RowsL.imp k h.2⟩
theorem RowsL.same {H H' : Hp} {ps : List Addr} {rs : List (List Int)} (h : RowsL H ps rs) (s : Same H H') : RowsL H' ps rs := h.imp fun _ _ e => s _ _ e
theorem RowsL.len {H : Hp} : ∀ {ps : List Addr} {rs : List (List Int)}, RowsL H ps rs → ps.length = rs.length
  | [], [], _ => rfl
  | _ :: _, _ :: _, h => congrArg (· + 1) (RowsL.len h.2)
theorem RowsL.snoc {H : Hp} {a : Addr} {z : List Int} (e : H a = some (.lst (z.map V.int))) : ∀ {ps : List Addr} {rs : List (List Int)}, RowsL H ps rs → RowsL H (ps ++ [a]) (rs ++ [z])
  | [], [], _ => ⟨e, True.intro⟩
  | _ :: _, _ :: _, h => ⟨h.1, RowsL.snoc e h.2⟩
theorem RowsL.get {H : Hp} : ∀ {ps : List Addr} {rs : List (List Int)}, RowsL H ps rs → ∀ {i : Nat} {z : List Int}, rs[i]? = some z → ∃ a, ps[i]? = some a ∧ H a = some (.lst (z.map V.int))
  | [], [], _, i, z, e => by simp at e
  | a :: ps, y :: rs, h, 0, z, e => by
    cases e
    exact ⟨a, rfl, h.1⟩
  | a :: ps, y :: rs, h, i + 1, z, e => RowsL.get h.2 (i := i) e
theorem intL_inj : ∀ {xs ys : List Int}, xs.map PyData.int = ys.map PyData.int → xs = ys
  | [], [], _ => rfl
  | [], _ :: _, h => by cases h
  | _ :: _, [], h => by cases h
  | x :: xs, y :: ys, h => by
    injection h with h1 h2
    injection h1 with h1
    rw [h1, intL_inj h2]
def rCntL (K : PySem.W.Frag) : V → List V → Hp → VK → Prop := fun x xs H Q => ∃ (p q : Addr) (ps : List Addr) (rs : List (List Int)) (r : List Int), x = .ref p ∧ xs = [.ref q] ∧ SqL K H p (ps.map V.ref) ∧ RowsL H ps rs ∧ SqL K H q (r.map V.int) ∧ Q (.int (rs.countP fun z => decide (z = r))) H
noncomputable def rdF (h : Heap) (r : List Int) (z : Value) : Bool := @decide (∃ as, Reads h z (.list (r.map PyData.int)) as) (Classical.propDecidable _)
theorem cnt_rows {X : Cx} {pins : List (Addr × Obj)} {σ : L2.St} {H : Hp} {s : Shared} (I : Inv X pins σ H s) {u : Value} {r : List Int} {us0 : List Addr} (ru : Reads s.heap u (.list (r.map PyData.int)) us0) (hu : X.A.in1.units + 1 < cLine) :
    ∀ (ps : List Addr) (rs : List (List Int)) (us : List Value), RowsL H ps rs → Vals (ps.map V.ref) us → (∀ z ∈ us, SeqAt.EqAt X.A.in1 s z u (rdF s.heap r z)) ∧ us.countP (rdF s.heap r) = rs.countP fun z => decide (z = r)
  | [], [], _, _, .nil => ⟨fun z hz => (by cases hz), rfl⟩
  | a :: ps, y :: rs, v :: us, h, .cons rv t => by
    obtain ⟨i1, i2⟩ := cnt_rows I ru hu ps rs us h.2 t
    obtain ⟨as, ra⟩ := Dp.reads I (.list (y.map PyData.int)) (.ref a) v (.lst (SqL.of h.1) (dp_ints y)) rv
    obtain ⟨y1, y2⟩ := lay_ints y
    obtain ⟨r1, r2⟩ := lay_ints r
    have e : rdF s.heap r v = decide (y = r) := by
      unfold rdF
      by_cases c : y = r
      · rw [decide_eq_true c]
        exact @decide_eq_true _ (Classical.propDecidable _) ⟨as, by rw [← c]; exact ra⟩
      · rw [decide_eq_false c]
        refine @decide_eq_false _ (Classical.propDecidable _) fun ⟨bs, rb⟩ => c ?_
        have q := (Reads.unique ra _ _ rb).1
        injection q with q
        exact intL_inj q
    have k := SeqAt.eqAt_reads (.list (y.map PyData.int)) (.list (r.map PyData.int)) X.A.in1 s v u as us0 ra ru y1 r1 (by
      have : PyData.depth (.list (y.map PyData.int)) = 1 := by show PyData.depthAll (y.map PyData.int) + 1 = 1; omega
      omega)
    rw [eqv_lints] at k
    refine ⟨fun z hz => ?_, ?_⟩
    · rcases List.mem_cons.mp hz with rfl | hz
      · rw [e]
        exact k
      · exact i1 z hz
    · rw [List.countP_cons, List.countP_cons, i2, e]
theorem mt_countL {X : Cx} (hu : X.A.units + 64 < cLine) : MtR X "list.count" (rCntL X.K) := by
  intro pins s σ H x xs v us Q I rx rxs h
  obtain ⟨p, q, ps, rs, r, rfl, rfl, hs, rw_, hq, k⟩ := h
  cases rx
  obtain ⟨u, rfl, ru⟩ := rxs.one
  obtain ⟨us0, rd⟩ := Dp.reads I (.list (r.map PyData.int)) (.ref q) u (.lst hq (dp_ints r)) ru
  obtain ⟨its, rv, ⟨⟨cls, dd, data, sl⟩, n, ho, hc, hdn, hd⟩, hlen⟩ := I.list hs
  simp only at hc hd
  subst hc hd
  obtain ⟨c1, c2⟩ := cnt_rows I rd (by show X.A.units + 1 + 1 < cLine; omega) ps rs its rw_ rv
  refine call_meets PySem.F.slot_list_count ⟨_, ho, rfl⟩ PySem.F.entry_list_count (PySem.F.args_list_count_2 _ _)
    (SeqAt.list_countAt p its.toArray n dd sl u (rdF s.heap r)) ⟨ho, fun z hz => c1 z (by simpa using hz), ?_⟩
  refine ⟨.int (rs.countP (fun z => decide (z = r)) : Nat), H, I.tok _, ⟨s.toks, ?_⟩, k⟩
  show Value.int ((its.toArray.toList.countP (rdF s.heap r) : Nat) : Int) s.toks = _
  rw [c2]
end Tw

/-! Marks: classes told by the row's own numbers, one part more each time. -/
namespace Tw
open PySem PySem.Spec PyProof.Rows L2
theorem pi_listK {X : Cx} {tg l : Expr} {tl : TE} {K : PySem.W.Frag} (hK : X.K = K) (hl : PE X l tl) : PI X tg l (iList K tl) := by
  subst hK
  exact pi_list hl
theorem prts_eq {t p t' p' m s y pt : Int} {n : Nat} (h : ∀ i, i < n → itr (stp t' p' m) i y / pt = itr (stp t p m) i s / pt) : prts t' p' m n y pt = prts t p m n s pt := by
  unfold prts orb
  rw [List.map_map, List.map_map]
  exact List.map_congr_left fun i hi => h i (List.mem_range.mp hi)
theorem map_sameT {q : Int × Int} {v : V} : ∀ (i : Nat) {ps : List (Int × Int)}, ps.Nodup → (q ∈ ps → v = V.int ((i + ps.idxOf q : Nat) : Int)) → (enumT i ps).map (fun kv => if kv.1 = keyT q then (kv.1, v) else kv) = enumT i ps
  | _, [], _, _ => rfl
  | i, p :: ps, nd, h => by
    have nd' := List.nodup_cons.mp nd
    show (if keyT p = keyT q then (keyT p, v) else (keyT p, V.int (i : Int))) :: (enumT (i + 1) ps).map _ = (keyT p, V.int (i : Int)) :: enumT (i + 1) ps
    by_cases e : p = q
    · subst e
      rw [if_pos rfl, h (.head _), List.idxOf_cons_self, map_sameT (i + 1) nd'.2 (fun hm => absurd hm nd'.1)]
      rfl
    · rw [if_neg (fun z => e (keyT_inj z)), map_sameT (i + 1) nd'.2 (fun hm => by
        have ix : (p :: ps).idxOf q = ps.idxOf q + 1 := by
          rw [List.idxOf_cons]
          simp [beq_eq_false_iff_ne.mpr e]
        rw [h (.tail _ hm), ix]
        congr 2
        omega)]
theorem putK_sameT {ps : List (Int × Int)} {q : Int × Int} (nd : ps.Nodup) (h : q ∈ ps) : putK (enumT 0 ps) (keyT q) (V.int ((ps.idxOf q : Nat) : Int)) = enumT 0 ps := by
  have any : ((enumT 0 ps).any fun kv => decide (kv.1 = keyT q)) = true := by
    rw [valV_any, enumT_some 0 h]
    rfl
  unfold putK
  rw [if_pos any]
  exact map_sameT 0 nd fun _ => by rw [Nat.zero_add]
/-- the keys of the first i -/
structure KyG (κ : Nat → Int × Int) (i : Nat) (ks : List (Int × Int)) : Prop where
  nd : ks.Nodup
  into : ∀ q ∈ ks, ∃ x : Nat, x < i ∧ q = κ x
  onto : ∀ x : Nat, x < i → κ x ∈ ks
def fiG (κ : Nat → Int × Int) (ks : List (Int × Int)) (i : Nat) : List Int := (List.range i).map fun (x : Nat) => ((ks.idxOf (κ x) : Nat) : Int)
theorem fiG_len (κ : Nat → Int × Int) (ks : List (Int × Int)) (i : Nat) : (fiG κ ks i).length = i := by unfold fiG; rw [List.length_map, List.length_range]
theorem kyG_zero (κ : Nat → Int × Int) : KyG κ 0 [] := ⟨List.nodup_nil, fun q h => (by cases h), fun x h => absurd h (Nat.not_lt_zero _)⟩
theorem kyG_old {κ : Nat → Int × Int} {i : Nat} {ks : List (Int × Int)} (h : KyG κ i ks) (hm : κ i ∈ ks) : KyG κ (i + 1) ks ∧ fiG κ ks (i + 1) = fiG κ ks i ++ [((ks.idxOf (κ i) : Nat) : Int)] := by
  refine ⟨⟨h.nd, fun q hq => ?_, fun x hx => ?_⟩, ?_⟩
  · obtain ⟨x, l, e⟩ := h.into q hq
    exact ⟨x, by omega, e⟩
  · by_cases c : x = i
    · rw [c]; exact hm
    · exact h.onto x (by omega)
  · unfold fiG
    rw [List.range_succ, List.map_append]
    rfl
theorem kyG_new {κ : Nat → Int × Int} {i : Nat} {ks : List (Int × Int)} (h : KyG κ i ks) (hm : κ i ∉ ks) : KyG κ (i + 1) (ks ++ [κ i]) ∧ fiG κ (ks ++ [κ i]) (i + 1) = fiG κ ks i ++ [((ks.length : Nat) : Int)] := by
  refine ⟨⟨?_, fun q hq => ?_, fun x hx => ?_⟩, ?_⟩
  · refine List.nodup_append.mpr ⟨h.nd, by simp, fun a ha b hb e => ?_⟩
    rw [List.mem_singleton.mp hb] at e
    exact hm (by rw [← e]; exact ha)
  · rcases List.mem_append.mp hq with hq | hq
    · obtain ⟨x, l, e⟩ := h.into q hq
      exact ⟨x, by omega, e⟩
    · exact ⟨i, by omega, List.mem_singleton.mp hq⟩
  · by_cases c : x = i
    · rw [c]; exact List.mem_append_right _ (List.mem_singleton.mpr rfl)
    · exact List.mem_append_left _ (h.onto x (by omega))
  · unfold fiG
    rw [List.range_succ, List.map_append]
    have e1 : (List.range i).map (fun (x : Nat) => (((ks ++ [κ i]).idxOf (κ x) : Nat) : Int)) = (List.range i).map fun (x : Nat) => ((ks.idxOf (κ x) : Nat) : Int) := List.map_congr_left fun x hx => by
      rw [List.idxOf_append, if_pos (h.onto x (List.mem_range.mp hx))]
    rw [e1]
    show _ ++ [(((ks ++ [κ i]).idxOf (κ i) : Nat) : Int)] = _
    rw [List.idxOf_append, if_neg hm, List.idxOf_cons_self]
    simp
theorem kyG_step {κ : Nat → Int × Int} {i : Nat} {ks : List (Int × Int)} (h : KyG κ i ks) : ∃ ks', KyG κ (i + 1) ks' ∧ fiG κ ks' (i + 1) = fiG κ ks i ++ [((ks'.idxOf (κ i) : Nat) : Int)] ∧ putK (enumT 0 ks) (keyT (κ i)) ((valV (enumT 0 ks) (keyT (κ i))).getD (V.int ((enumT 0 ks).length : Nat))) = enumT 0 ks' ∧ κ i ∈ ks' ∧ ks'.length ≤ ks.length + 1 := by
  by_cases hm : κ i ∈ ks
  · obtain ⟨a, b⟩ := kyG_old h hm
    refine ⟨ks, a, b, ?_, hm, by omega⟩
    rw [enumT_some 0 hm, Nat.zero_add]
    exact putK_sameT h.nd hm
  · obtain ⟨a, b⟩ := kyG_new h hm
    refine ⟨ks ++ [κ i], a, ?_, ?_, by simp, by simp⟩
    · rw [b, List.idxOf_append, if_neg hm, List.idxOf_cons_self, Nat.zero_add]
    · rw [enumT_none 0 hm]
      show putK (enumT 0 ks) (keyT (κ i)) (V.int ((enumT 0 ks).length : Nat)) = _
      rw [putK_new _ (enumT_none 0 hm), enumT_snoc, enumT_len, Nat.zero_add]
theorem eqK_snoc {f : Int → Int} {pt : Int} {k : Nat} {x y : Int} : EqK f pt (k + 1) x y ↔ EqK f pt k x y ∧ itr f k x / pt = itr f k y / pt :=
  ⟨fun h => ⟨eqK_mono h (by omega), h k (by omega)⟩, fun ⟨a, b⟩ i hi => by
    by_cases c : i = k
    · rw [c]; exact b
    · exact a i (by omega)⟩
/-- what tells a number's mark by one part more -/
def kyM (f : Int → Int) (pt : Int) (k : Nat) (mk : List Int) (x : Nat) : Int × Int := (gI mk x, itr f k x / pt)
theorem cl_mark {f : Int → Int} {pt m : Int} {k : Nat} {mk : List Int} {ks : List (Int × Int)} (C : Cl f pt m k mk) (h : KyG (kyM f pt k mk) m.toNat ks) : Cl f pt m (k + 1) (fiG (kyM f pt k mk) ks m.toNat) := by
  have at_ : ∀ x, 0 ≤ x → x < m → gI (fiG (kyM f pt k mk) ks m.toNat) x = ((ks.idxOf (gI mk x, itr f k x / pt) : Nat) : Int) := fun x x0 x1 => by
    unfold gI fiG
    rw [List.getD_eq_getElem?_getD, List.getElem?_map, List.getElem?_range (show x.toNat < m.toNat by omega)]
    show ((ks.idxOf (kyM f pt k mk x.toNat) : Nat) : Int) = _
    unfold kyM
    rw [show ((x.toNat : Nat) : Int) = x by omega]
    rfl
  have inK : ∀ x, 0 ≤ x → x < m → (gI mk x, itr f k x / pt) ∈ ks := fun x x0 x1 => by
    have := h.onto x.toNat (by omega)
    unfold kyM at this
    rw [show ((x.toNat : Nat) : Int) = x by omega] at this
    exact this
  refine ⟨fiG_len .., fun x y x0 x1 y0 y1 => ?_, fun v hv => ?_, fun v hv w w0 w1 => ?_⟩
  · rw [at_ x x0 x1, at_ y y0 y1, eqK_snoc, ← C.eq _ _ x0 x1 y0 y1]
    constructor
    · intro e
      have e2 : ks.idxOf (gI mk x, itr f k x / pt) = ks.idxOf (gI mk y, itr f k y / pt) := by omega
      have e3 := idx_inj (inK x x0 x1) (inK y y0 y1) e2
      exact ⟨congrArg Prod.fst e3, congrArg Prod.snd e3⟩
    · rintro ⟨e1, e2⟩
      rw [e1, e2]
  · unfold fiG at hv
    obtain ⟨x, _, rfl⟩ := List.mem_map.mp hv
    omega
  · unfold fiG at hv
    obtain ⟨x, hx, rfl⟩ := List.mem_map.mp hv
    have lx := List.idxOf_lt_length_of_mem (h.onto x (List.mem_range.mp hx))
    have wl : w.toNat < ks.length := by omega
    obtain ⟨y, yl, ey⟩ := h.into _ (List.getElem_mem wl)
    unfold fiG
    refine List.mem_map.mpr ⟨y, List.mem_range.mpr yl, ?_⟩
    rw [← ey, List.Nodup.idxOf_getElem h.nd]
    omega
/-- as many unlike marks as the greatest one and one -/
theorem dist_len {f : Int → Int} {pt m M : Int} {k : Nat} {cl ks : List Int} (C : Cl f pt m k cl) (hM : Mx cl M) (nd : ks.Nodup) (h : ∀ j : Int, j ∈ ks ↔ decide (j ∈ cl) = true) : (ks.length : Int) = M + 1 := by
  have M0 := C.pos M hM.1
  have an : (alls (M + 1)).Nodup := by
    unfold alls
    exact List.Pairwise.map _ (fun a b (ab : a < b) e => by omega) (List.pairwise_lt_range (n := (M + 1).toNat))
  have al : (alls (M + 1)).length = (M + 1).toNat := by unfold alls; rw [List.length_map, List.length_range]
  have a := sub_len nd (k := alls (M + 1)) fun x hx => by
    have q := of_decide_eq_true ((h x).mp hx)
    have := C.pos x q
    have := hM.2 x q
    exact alls_mem.mpr ⟨by omega, by omega⟩
  have b := sub_len an (k := ks) fun x hx => by
    obtain ⟨x0, x1⟩ := alls_mem.mp hx
    exact (h x).mpr (decide_eq_true (C.cont M hM.1 x x0 (by omega)))
  omega
/-- the marks, as many rows as are wanted -/
structure Mks (f : Int → Int) (pt m : Int) (rs : List (List Int)) : Prop where
  cl : ∀ i z, rs[i]? = some z → Cl f pt m i z
  pos : 1 ≤ rs.length
  st : ∀ x y, 0 ≤ x → x < m → 0 ≤ y → y < m → EqK f pt (rs.length - 1) x y → EqK f pt rs.length x y
def dLL (rs : List (List Int)) : PyData := .list (rs.map fun z => .list (z.map PyData.int))
theorem dp_rowsL {K : PySem.W.Frag} {H : Hp} : ∀ {ps : List Addr} {rs : List (List Int)}, RowsL H ps rs → DpAll K H (ps.map V.ref) (rs.map fun z => .list (z.map PyData.int))
  | [], [], _ => .nil
  | _ :: _, _ :: _, h => .cons (.lst (SqL.of h.1) (dp_ints _)) (dp_rowsL h.2)
theorem lay_LL : ∀ rs : List (List Int), PyData.canLayAll0 (rs.map fun z => PyData.list (z.map PyData.int)) = true ∧ PyData.depthAll (rs.map fun z => PyData.list (z.map PyData.int)) ≤ 1
  | [] => ⟨rfl, by show 0 ≤ 1; decide⟩
  | z :: rs => by
    obtain ⟨a, b⟩ := lay_LL rs
    obtain ⟨c, d⟩ := lay_ints z
    constructor
    · show (PyData.canLayAll0 (z.map PyData.int) && PyData.canLayAll0 (rs.map fun z => PyData.list (z.map PyData.int))) = true
      rw [c, a]
      rfl
    · show max (PyData.depthAll (z.map PyData.int) + 1) (PyData.depthAll (rs.map fun z => PyData.list (z.map PyData.int))) ≤ 1
      omega
theorem shp_LL (rs : List (List Int)) : SeqAt.shaped (dLL rs) = true := by
  obtain ⟨a, b⟩ := lay_LL rs
  show (PyData.canLayAll0 (rs.map fun z => PyData.list (z.map PyData.int)) && decide (PyData.depthAll (rs.map fun z => PyData.list (z.map PyData.int)) + 1 ≤ 64)) = true
  rw [a, decide_eq_true (by omega)]
  rfl
theorem eqv_LL_nil (rs : List (List Int)) : PyData.eqv (dLL rs) (.list []) = decide (rs = []) := by
  cases rs with
  | nil => exact eqv_self (d := .list []) rfl
  | cons z rs =>
    rw [decide_eq_false (by simp)]
    unfold dLL
    rw [List.map_cons]
    exact SeqAt.eqvAll_other_length (xs := (PyData.list (z.map PyData.int)) :: rs.map fun z => PyData.list (z.map PyData.int)) (ys := []) (by simp)
/-- all the same by one part, if no number reaches it -/
theorem mx_zero {f : Int → Int} {pt m M : Int} {k : Nat} {cl : List Int} (C : Cl f pt m k cl) (hM : Mx cl M) (al : ∀ x y, 0 ≤ x → x < m → 0 ≤ y → y < m → EqK f pt k x y) : M = 0 := by
  have M0 := C.pos M hM.1
  obtain ⟨x, x0, x1, ex⟩ := mem_gI C.len hM.1
  obtain ⟨y, y0, y1, ey⟩ := mem_gI C.len (C.cont M hM.1 0 (by omega) M0)
  have := (C.eq x y x0 x1 y0 y1).mpr (al x y x0 x1 y0 y1)
  omega
/-- told by the first rows that are so -/
theorem Mks.lst {f : Int → Int} {pt m : Int} {rs : List (List Int)} {St : Nat → Prop} (h : Mks f pt m rs) (fr : ∀ x, 0 ≤ f x ∧ f x < m) (on : OnEq f pt m St) : (∀ k, k < rs.length → ¬ St k) → Lst St .non := fun no => by
  refine .inl ⟨rfl, fun k s => ?_⟩
  by_cases c : k < rs.length
  · exact no k c s
  refine no (rs.length - 1) (by have := h.pos; omega) ?_
  have p := h.pos
  have e : rs.length - 1 + 1 = rs.length := by omega
  refine (on (rs.length - 1) k fun x y x0 x1 y0 y1 => ⟨fun q => ?_, fun q => eqK_mono q (by omega)⟩).mpr s
  exact eqK_stable fr (k := rs.length - 1) (fun x y x0 x1 y0 y1 q => by rw [e]; exact h.st x y x0 x1 y0 y1 q) k (by omega) x y x0 x1 y0 y1 q
end Tw


namespace Tw
open PySem PySem.Spec PyProof.Rows L2
def topS (i : Nat) : Stmt := PySem.Challenge.pw_timesrow_k21_settled.main.body.getD i (.Pass ⟨0, 0, 0, 0⟩)
abbrev s_deck : Stmt := topS 20
theorem sc_deck : FnScope ["script", "great", "mixed", "cell"] ["script"] (defScope s_deck) := ⟨rfl, rfl, rfl, by decide +kernel, rfl, by decide +kernel, by decide +kernel⟩
abbrev s_draw : Stmt := topS 21
theorem sc_draw : FnScope ["deck", "most", "found", "turn", "one"] ["deck", "most"] (defScope s_draw) := ⟨rfl, rfl, rfl, by decide +kernel, rfl, by decide +kernel, by decide +kernel⟩
abbrev s_below : Stmt := topS 22
theorem sc_below : FnScope ["deck", "most"] ["deck", "most"] (defScope s_below) := ⟨rfl, rfl, rfl, by decide +kernel, rfl, by decide +kernel, by decide +kernel⟩
abbrev s_rule : Stmt := topS 23
theorem sc_rule : FnScope ["deck", "most", "far", "bound", "times", "plus"] ["deck", "most"] (defScope s_rule) := ⟨rfl, rfl, rfl, by decide +kernel, rfl, by decide +kernel, by decide +kernel⟩
section
variable {P : Program} {w : World} {K : PySem.W.Frag} {mg : Str → Option Value} {base : Heap}
theorem ok_deck (D : Top K mg "_law_deck" s_deck ["script"]) (z_len : mg "len" = none) (z_abs : mg "abs" = none) : Has P w K mg base CX0 1 "_law_deck" ["script"] (sp1 (pDeckB K)) := by
  refine D.ok1 sc_deck (fun f cdv A outer s H v1 Q E hr h => ?_)
  obtain ⟨sa, xs, rfl, hS, hl, hb, q⟩ := h
  refine ⟨_, (pss_cons (ps_set (i := 1) sc_deck.nd rfl (.inl rfl) pe_int)
 (pss_cons (ps_set (i := 2) sc_deck.nd rfl (.inl rfl) (pe_op op_add (pe_op op_mulB pe_int (pe_callB (id := "len") call_len_seq (by rfl) z_len (by decide +kernel) (pa_cons (pv 0) pa_nil))) pe_int))
 (pss_cons (ps_for PassesOwn.never rfl (pi_list (pe_slice sl_list (pv 0) po_none (po_some pe_int))) (pg_name (i := 3) sc_deck.nd rfl (.inl rfl)) (pss_one (ps_if (pt_cmpR op_ge (pe_callB (id := "abs") call_abs (by rfl) z_abs (by decide +kernel) (pa_cons (pv 3) pa_nil)) (pe_op op_pow pe_int pe_int) (nomark _)) (pss_one (ps_set (i := 1) sc_deck.nd rfl (.inl rfl) (pe_op op_add (pe_op op_shlN (pv 1) pe_int) (pe_callB (id := "abs") call_abs (by rfl) z_abs (by decide +kernel) (pa_cons (pv 3) pa_nil))))) (pss_one (ps_set (i := 2) sc_deck.nd rfl (.inl rfl) (pe_op op_mod (pe_op op_add (pe_op op_mulB (pv 2) pe_int) (pv 3)) pe_int))))))
 (pss_one (ps_ret (pe_lst (pa_cons (pv 1) (pa_cons (pv 2) (pa_cons pe_int pa_nil))))))))), ?_⟩
  refine ⟨_, rfl, sa, _, rfl, .inl hS, _, _, rfl, rfl, ⟨by unfold Big; omega, by rw [List.length_map]; unfold Big; omega⟩, _, _, rfl, rfl, ?_⟩
  rw [List.length_map]
  refine ⟨_, rfl, _, rfl, sa, _, rfl, hS, fun c nc => ?_⟩
  rw [show (some (63 : Int)) = some ((63 : Nat) : Int) from rfl, cut_takeI]
  have hx : xs.take 63 = xs := List.take_of_length_le hl
  rw [hx]
  have sc := same_new (o := .lst (xs.map V.int)) nc
  refine ⟨c, rfl, ⟨_, SqL.of upd_same⟩, for_list (K := K) (a := c) (xs := xs.map V.int) (fun i σ H' => ∃ (g x : Int) (y : Option V), σ = [some (.ref sa), some (.int g), some (.int x), y] ∧ H' = upd H c (.lst (xs.map V.int)) ∧ 0 ≤ g ∧ Builtin.Int.intBits g ≤ 1048576 + 206 * i ∧ i ≤ xs.length ∧ 0 ≤ x ∧ x < 2000000000) ⟨0, _, none, rfl, rfl, by decide, Nat.zero_le _, Nat.zero_le _, by omega, by omega⟩ ?_ ?_ ?_⟩
  · rintro i σ H' _ ⟨g, x, y, rfl, rfl, _⟩
    exact SqL.of upd_same
  · rintro i v σ H' hi ⟨g, x, y, rfl, rfl, g0, gb, il, x0, x1⟩
    obtain ⟨rfl, li⟩ := vget hi
    have cb := hb (xs.getD i 0) (by rw [get_D (List.getElem?_eq_getElem li)]; exact List.getElem_mem li)
    have z18 : (10 : Int) ^ (18 : Int).toNat = 1000000000000000000 := by decide
    refine ⟨_, rfl, _, rfl, _, _, rfl, rfl, ⟨by decide, by decide, by decide⟩, _, _, rfl, rfl, _, rfl, ifD (fun e => ?_) (fun e => ?_)⟩
    · refine ⟨_, rfl, g, 205, rfl, rfl, ⟨by decide, by have h27 : (2 : Int) ^ 27 = 134217728 := (by decide); rw [h27]; omega⟩, _, rfl, _, rfl, _, _, rfl, rfl, ?_⟩
      refine ⟨_, x, some (.int (xs.getD i 0)), rfl, rfl, ?_, ?_, by omega, x0, x1⟩
      · have h1 := Int.mul_nonneg g0 (show (0 : Int) ≤ 2 ^ 205 from Int.le_of_lt (Int.pow_pos (by decide)))
        have h2 := ab_nonneg (xs.getD i 0)
        show 0 ≤ g * 2 ^ 205 + ab (xs.getD i 0)
        omega
      · have := bits_step (g := g) (c := xs.getD i 0) (n := 1048576 + 206 * i) (k := 205) g0 gb (by omega)
        show Builtin.Int.intBits (g * 2 ^ 205 + ab (xs.getD i 0)) ≤ _
        omega
    · have eb : -1000000000000000000 < xs.getD i 0 ∧ xs.getD i 0 < 1000000000000000000 := by
        rw [z18] at e
        by_cases n : xs.getD i 0 < 0
        · rw [if_pos n] at e; omega
        · rw [if_neg n] at e; omega
      refine ⟨_, rfl, _, _, rfl, rfl, ⟨by unfold Big; omega, by unfold Big; omega⟩, _, rfl, _, _, rfl, rfl, _, _, rfl, rfl, by show (0:Int) < _; decide, ?_⟩
      have mb := mod_bd (x * 43 + xs.getD i 0) (b := 1999999871) (by decide)
      exact ⟨g, _, some (.int (xs.getD i 0)), rfl, rfl, g0, by omega, by omega, mb.1, by omega⟩
  · rintro σ H' ⟨g, x, y, rfl, rfl, g0, gb, il, x0, x1⟩
    refine ⟨_, rfl, _, rfl, by show 3 ≤ sizeLine; decide, fun d nd => ?_⟩
    exact q _ d (sc.trans (same_new nd)) (sc.free nd) ⟨g, x, 0, upd_same, g0, x0, x1, by decide, by decide⟩
theorem ok_draw (D : Top K mg "_law_draw" s_draw ["deck", "most"]) : Has P w K mg base CX0 1 "_law_draw" ["deck", "most"] (sp2 (pDrB 1)) := by
  refine D.ok2 sc_draw (fun f cdv A outer s H v1 v2 Q E hr h => ?_)
  obtain ⟨d, n, m, rfl, rfl, m0, m1, hD, hn, q⟩ := h
  refine ⟨_, (pss_cons (ps_asg (pe_op op_add (pe_ix ix_list (pv 0) pe_int (fun _ _ => rfl)) pe_int) (pg_sub (pv 0) pe_int set_list))
 (pss_cons (ps_if (pt_cmpR op_gt (pe_ix ix_list (pv 0) pe_int (fun _ _ => rfl)) pe_int (nomark _)) (pss_cons (ps_set (i := 2) sc_draw.nd rfl (.inl rfl) (pe_op op_mod (pe_ix ix_list (pv 0) pe_int (fun _ _ => rfl)) (pv 1)))
 (pss_cons (ps_asg (pe_op op_fdivB (pe_ix ix_list (pv 0) pe_int (fun _ _ => rfl)) (pv 1)) (pg_sub (pv 0) pe_int set_list))
 (pss_one (ps_ret (pv 2))))) pss_nil)
 (pss_cons (ps_set (i := 3) sc_draw.nd rfl (.inl rfl) (pe_ix ix_list (pv 0) pe_int (fun _ _ => rfl)))
 (pss_cons (ps_set (i := 4) sc_draw.nd rfl (.inl rfl) (pe_op op_mod (pe_op op_add (pe_op op_add (pe_ix ix_list (pv 0) pe_int (fun _ _ => rfl)) (pe_op op_mulB (pe_op op_mulB pe_int (pv 3)) (pv 3))) (pe_op op_mulB pe_int (pv 3))) pe_int))
 (pss_cons (ps_set (i := 4) sc_draw.nd rfl (.inl rfl) (pe_op op_mod (pe_op op_mulB (pv 4) (pv 4)) pe_int))
 (pss_one (ps_ret (pe_op op_mod (pe_op op_fdivB (pe_op op_mod (pe_op op_add (pe_op op_mulB (pv 4) pe_int) (pe_op op_mulB (pv 3) pe_int)) pe_int) pe_int) (pv 1))))))))), ?_⟩
  have nh := hD.nohd
  obtain ⟨g, x, k, hd, g0, x0, x1, k0, k1⟩ := hD
  refine ⟨_, rfl, d, _, 2, .int k, rfl, rfl, SqL.of hd, rfl, _, _, rfl, rfl, _, rfl, d, _, 2, 2, rfl, rfl, hd, rfl, ?_⟩
  have B1 : But d H (upd H d (.lst [.int g, .int x, .int (k + 1)])) := but_mut (But.refl d H) (fun c' hc => absurd hc (nh c'))
  have nh1 : ∀ c', ¬ At (upd H d (.lst [.int g, .int x, .int (k + 1)])) d c' := fun c' hc => by
    obtain ⟨_, e⟩ := hc
    rw [upd_same] at e
    cases e
  have mx : ∀ (v : Int), 0 ≤ v → v < m → Q (.int v) (upd H d (.lst [.int g, .int x, .int (k + 1)])) := fun v v0 v1 => q _ v B1 ⟨g, x, k + 1, upd_same, g0, x0, x1, by omega, by omega⟩ v0 v1
  refine ⟨_, rfl, d, _, 0, .int g, rfl, rfl, SqL.of upd_same, rfl, _, _, rfl, rfl, _, rfl, ifD (fun e2 => ?_) (fun e2 => ?_)⟩
  · refine ⟨_, rfl, d, _, 0, .int g, rfl, rfl, SqL.of upd_same, rfl, _, rfl, _, _, rfl, rfl, m0, ?_⟩
    refine ⟨_, rfl, d, _, 0, .int g, rfl, rfl, SqL.of upd_same, rfl, _, rfl, _, _, rfl, rfl, ⟨m0, m1⟩, _, rfl, d, _, 0, 0, rfl, rfl, upd_same, rfl, ?_⟩
    have bv := mod_bd g m0
    exact ⟨_, rfl, q _ _ (but_mut B1 (fun c' hc => absurd hc (nh1 c'))) ⟨_, x, k + 1, upd_same, Int.ediv_nonneg g0 (by omega), x0, x1, by omega, by omega⟩ bv.1 bv.2⟩
  · have kk := mul_bd (show 0 ≤ k + 1 by omega) (show k + 1 ≤ 100000001 by omega) (show 0 ≤ k + 1 by omega) (show k + 1 ≤ 100000001 by omega)
    refine ⟨_, rfl, d, _, 2, .int (k + 1), rfl, rfl, SqL.of upd_same, rfl, ?_⟩
    refine ⟨_, rfl, d, _, 1, .int x, rfl, rfl, SqL.of upd_same, rfl, _, rfl, _, _, rfl, rfl, ⟨by unfold Big; omega, by unfold Big; omega⟩, _, rfl, _, _, rfl, rfl, ⟨by unfold Big; omega, by unfold Big; omega⟩, _, _, rfl, rfl, _, rfl, _, _, rfl, rfl, ⟨by unfold Big; omega, by unfold Big; omega⟩, _, _, rfl, rfl, _, _, rfl, rfl, by show (0:Int) < _; decide, ?_⟩
    generalize x + 70003 * (k + 1) * (k + 1) + 5003 * (k + 1) = z1
    have b1 := mod_bd z1 (b := 2147483543) (by decide)
    refine ⟨_, rfl, _, rfl, _, _, rfl, rfl, ⟨by unfold Big; omega, by unfold Big; omega⟩, _, _, rfl, rfl, by show (0:Int) < _; decide, ?_⟩
    generalize z1 % 2147483543 * (z1 % 2147483543) = z2
    have b2 := mod_bd z2 (b := 2147483497) (by decide)
    refine ⟨_, rfl, _, _, rfl, rfl, ⟨by unfold Big; omega, by unfold Big; omega⟩, _, rfl, _, _, rfl, rfl, ⟨by unfold Big; omega, by unfold Big; omega⟩, _, _, rfl, rfl, _, _, rfl, rfl, by show (0:Int) < _; decide, _, _, rfl, rfl, ⟨by decide, by decide⟩, _, rfl, _, _, rfl, rfl, m0, ?_⟩
    have b3 := mod_bd ((z2 % 2147483497 * 38333 + (k + 1) * 67) % 2147483477 / 13) m0
    exact mx _ b3.1 b3.2
theorem ok_below (D : Top K mg "_law_below" s_below ["deck", "most"]) (h_draw : Has P w K mg base CX0 1 "_law_draw" ["deck", "most"] (sp2 (pDrB 1))) : Has P w K mg base CX0 2 "_law_below" ["deck", "most"] (sp2 (pDrB 2)) := by
  refine D.ok2 sc_below (fun f cdv A outer s H v1 v2 Q E hr h => ?_)
  obtain ⟨d, n, m, rfl, rfl, m0, m1, hD, hn, q⟩ := h
  refine ⟨_, (pss_one (ps_ret (pe_op op_mod (pe_op op_add (pe_op op_mulB (pe_own h_draw (hr.mono (by decide)) pass0 (pa_cons (pv 0) (pa_cons (pe_op op_pow pe_int pe_int) pa_nil))) (pe_op op_pow pe_int pe_int)) (pe_own h_draw (hr.mono (by decide)) pass0 (pa_cons (pv 0) (pa_cons (pe_op op_pow pe_int pe_int) pa_nil)))) (pv 1)))), ?_⟩
  have z : (10 : Int) ^ (6 : Int).toNat = 1000000 := by decide
  refine ⟨_, rfl, _, _, rfl, rfl, ⟨by decide, by decide, by decide⟩, _, _, rfl, d, n, _, rfl, rfl, by decide, by decide, hD, by omega, fun H1 v B1 D1 v0 v1 => ?_⟩
  rw [z] at v1
  refine ⟨_, _, rfl, rfl, ⟨by decide, by decide, by decide⟩, _, _, rfl, rfl, ⟨by unfold Big; omega, show Big 1000000 from ⟨by decide, by decide⟩⟩, ?_⟩
  refine ⟨_, rfl, _, _, rfl, rfl, ⟨by decide, by decide, by decide⟩, _, _, rfl, d, n + 1, _, rfl, rfl, by decide, by decide, D1, by omega, fun H2 u B2 D2 u0 u1 => ?_⟩
  refine ⟨_, _, rfl, rfl, _, rfl, _, _, rfl, rfl, m0, ?_⟩
  have bv := mod_bd (v * 10 ^ (6 : Int).toNat + u) m0
  exact q _ _ (B1.trans B2) D2 bv.1 bv.2
theorem ok_rule (D : Top K mg "_law_rule" s_rule ["deck", "most"]) (h_draw : Has P w K mg base CX0 1 "_law_draw" ["deck", "most"] (sp2 (pDrB 1))) (h_below : Has P w K mg base CX0 2 "_law_below" ["deck", "most"] (sp2 (pDrB 2))) (z_max : mg "max" = none) : Has P w K mg base CX0 3 "_law_rule" ["deck", "most"] (sp2 pRuleB) := by
  refine D.ok2 sc_rule (fun f cdv A outer s H v1 v2 Q E hr h => ?_)
  obtain ⟨d, n, m, rfl, rfl, hm, hD, hn, q⟩ := h
  refine ⟨_, (pss_cons (ps_set (i := 2) sc_rule.nd rfl (.inl rfl) (pe_ix ix_list (pe_lst (pa_cons pe_int (pa_cons pe_int (pa_cons (pv 1) pa_nil)))) (pe_own h_draw (hr.mono (by decide)) pass0 (pa_cons (pv 0) (pa_cons pe_int pa_nil))) (fun _ _ => rfl)))
 (pss_cons (ps_set (i := 3) sc_rule.nd rfl (.inl rfl) (pe_ix ix_list (pe_lst (pa_cons (pe_op op_add pe_int (pe_own h_below (hr.mono (by decide)) pass0 (pa_cons (pv 0) (pa_cons (pv 2) pa_nil)))) (pa_cons (pv 2) (pa_cons (pe_op op_oneShl pe_int (pe_own h_draw (hr.mono (by decide)) pass0 (pa_cons (pv 0) (pa_cons (pe_bits (pv 2)) pa_nil)))) pa_nil)))) (pe_own h_draw (hr.mono (by decide)) pass0 (pa_cons (pv 0) (pa_cons pe_int pa_nil))) (fun _ _ => rfl)))
 (pss_cons (ps_set (i := 4) sc_rule.nd rfl (.inl rfl) (pe_ix ix_list (pe_lst (pa_cons (pe_own h_below (hr.mono (by decide)) pass0 (pa_cons (pv 0) (pa_cons (pv 3) pa_nil))) (pa_cons pe_int (pa_cons (pe_op op_mod pe_int (pv 3)) (pa_cons (pe_op op_sub (pv 3) pe_int) (pa_cons (pe_op op_fdivB (pv 3) pe_int) pa_nil)))))) (pe_callB (id := "max") (call_max2 rfl) (by rfl) z_max (by decide +kernel) (pa_cons pe_int (pa_cons (pe_op op_sub (pe_own h_draw (hr.mono (by decide)) pass0 (pa_cons (pv 0) (pa_cons pe_int pa_nil))) pe_int) pa_nil))) (fun _ _ => rfl)))
 (pss_cons (ps_set (i := 5) sc_rule.nd rfl (.inl rfl) (pe_ix ix_list (pe_lst (pa_cons (pe_own h_below (hr.mono (by decide)) pass0 (pa_cons (pv 0) (pa_cons (pv 3) pa_nil))) (pa_cons pe_int (pa_cons (pe_op op_mod pe_int (pv 3)) (pa_cons (pe_op op_fdivB (pv 3) pe_int) pa_nil))))) (pe_callB (id := "max") (call_max2 rfl) (by rfl) z_max (by decide +kernel) (pa_cons pe_int (pa_cons (pe_op op_sub (pe_own h_draw (hr.mono (by decide)) pass0 (pa_cons (pv 0) (pa_cons pe_int pa_nil))) pe_int) pa_nil))) (fun _ _ => rfl)))
 (pss_one (ps_ret (pe_tup (pa_cons (pv 4) (pa_cons (pv 5) (pa_cons (pv 3) pa_nil)))))))))), ?_⟩
  refine ⟨_, rfl, by show 3 ≤ sizeLine; decide, fun l1 nl1 => ?_⟩
  have s1 := same_new (o := .lst [.int 12, .int 60, .int m]) nl1
  refine ⟨_, rfl, _, _, rfl, d, n, 3, rfl, rfl, by decide, by decide, hD.same s1, by omega, fun H1 u B1 D1 u0 u1 => ?_⟩
  obtain ⟨far, hfar, efar⟩ := at_ints (ns := [12, 60, m]) u0 (by show u < 3; exact u1)
  have bf : (far = 12 ∨ far = 60 ∨ far = 2000) ∧ far ≤ m := by
    simp at hfar
    omega
  clear hfar
  refine ⟨l1, _, u, _, rfl, rfl, SqL.of (B1 _ _ (hD.ne nl1) upd_same), efar, ?_⟩
  have Ba : But d H H1 := s1.but.trans B1
  refine ⟨_, rfl, _, rfl, _, _, rfl, d, n + 1, far, rfl, rfl, by omega, by omega, D1, by omega, fun H2 v2 B2 D2 v20 v21 => ⟨_, _, rfl, rfl, ?_⟩⟩
  have bb : ∃ k : Nat, Builtin.Int.intBits far = k ∧ 0 < k ∧ k ≤ 11 ∧ (2 : Int) ^ (k - 1) ≤ far := by
    rcases bf.1 with rfl | rfl | rfl
    · exact ⟨4, by decide +kernel, by decide, by decide, by decide⟩
    · exact ⟨6, by decide +kernel, by decide, by decide, by decide⟩
    · exact ⟨11, by decide +kernel, by decide, by decide, by decide⟩
  obtain ⟨k, ek, k0, k1, kf⟩ := bb
  refine ⟨_, rfl, _, rfl, _, rfl, far, rfl, _, _, rfl, d, n + 3, _, rfl, rfl, by rw [ek]; omega, by rw [ek]; omega, D2, by omega, fun H3 v3 B3 D3 v30 v31 => ?_⟩
  rw [ek] at v31
  obtain ⟨j, rfl⟩ := Int.eq_ofNat_of_zero_le v30
  have pj : 1 ≤ (2 : Int) ^ j ∧ (2 : Int) ^ j ≤ far := by
    have h1 : (2 : Nat) ^ j ≤ 2 ^ (k - 1) := Nat.pow_le_pow_right (by decide) (by omega)
    have h2 : (1 : Nat) ≤ 2 ^ j := Nat.one_le_two_pow
    have e1 : ((2 ^ j : Nat) : Int) = (2 : Int) ^ j := by norm_cast
    have e2 : ((2 ^ (k - 1) : Nat) : Int) = (2 : Int) ^ (k - 1) := by norm_cast
    omega
  refine ⟨j, rfl, rfl, by omega, by show 3 ≤ sizeLine; decide, fun l2 nl2 => ?_⟩
  have s2 := same_new (o := .lst [.int (1 + v2), .int far, .int (2 ^ j)]) nl2
  refine ⟨_, rfl, _, _, rfl, d, n + 4, 3, rfl, rfl, by decide, by decide, D3.same s2, by omega, fun H4 v4 B4 D4 v40 v41 => ?_⟩
  obtain ⟨b, hb, eb⟩ := at_ints (ns := [1 + v2, far, 2 ^ j]) v40 (by show v4 < 3; exact v41)
  have b0 : 1 ≤ b ∧ b ≤ far := by
    simp at hb
    rcases hb with rfl | rfl | rfl <;> omega
  clear hb
  refine ⟨l2, _, v4, _, rfl, rfl, SqL.of (B4 _ _ (D3.ne nl2) upd_same), eb, ?_⟩
  have Bb : But d H H4 := (((Ba.trans B2).trans B3).trans s2.but).trans B4
  have bp : 0 < b := by omega
  -- times
  refine ⟨_, rfl, _, rfl, _, _, rfl, d, n + 5, b, rfl, rfl, bp, by omega, D4, by omega, fun H5 v5 B5 D5 v50 v51 => ?_⟩
  refine ⟨_, rfl, _, _, rfl, rfl, bp, _, rfl, _, _, rfl, rfl, _, rfl, _, _, rfl, rfl, ⟨by decide, by decide⟩, by show 5 ≤ sizeLine; decide, fun l3 nl3 => ?_⟩
  have s3 := same_new (o := .lst [.int v5, .int 0, .int (1 % b), .int (b - 1), .int (b / 2)]) nl3
  refine ⟨_, rfl, _, _, rfl, d, n + 7, 8, rfl, rfl, by decide, by decide, D5.same s3, by omega, fun H6 v6 B6 D6 v60 v61 => ⟨_, _, rfl, rfl, _, _, rfl, ?_⟩⟩
  have i1 : 0 ≤ (if v6 - 3 > 0 then v6 - 3 else 0) ∧ (if v6 - 3 > 0 then v6 - 3 else 0) < 5 := by split <;> omega
  generalize (if v6 - 3 > 0 then v6 - 3 else 0) = ix at i1
  obtain ⟨t, ht, et⟩ := at_ints (ns := [v5, 0, 1 % b, b - 1, b / 2]) i1.1 (by show ix < 5; exact i1.2)
  have m1 := mod_bd 1 bp
  have t0 : 0 ≤ t ∧ t < b := by
    simp at ht
    rcases ht with rfl | rfl | rfl | rfl | rfl <;> omega
  clear ht
  refine ⟨l3, _, ix, _, rfl, rfl, SqL.of (B6 _ _ (D5.ne nl3) upd_same), et, ?_⟩
  have Bc : But d H H6 := ((Bb.trans B5).trans s3.but).trans B6
  -- plus
  refine ⟨_, rfl, _, rfl, _, _, rfl, d, n + 8, b, rfl, rfl, bp, by omega, D6, by omega, fun H7 v7 B7 D7 v70 v71 => ?_⟩
  refine ⟨_, rfl, _, _, rfl, rfl, bp, _, rfl, _, _, rfl, rfl, ⟨by decide, by decide⟩, by show 4 ≤ sizeLine; decide, fun l4 nl4 => ?_⟩
  have s4 := same_new (o := .lst [.int v7, .int 0, .int (1 % b), .int (b / 3)]) nl4
  refine ⟨_, rfl, _, _, rfl, d, n + 10, 8, rfl, rfl, by decide, by decide, D7.same s4, by omega, fun H8 v8 B8 D8 v80 v81 => ⟨_, _, rfl, rfl, _, _, rfl, ?_⟩⟩
  have i2 : 0 ≤ (if v8 - 4 > 0 then v8 - 4 else 0) ∧ (if v8 - 4 > 0 then v8 - 4 else 0) < 4 := by split <;> omega
  generalize (if v8 - 4 > 0 then v8 - 4 else 0) = iy at i2
  obtain ⟨p, hp, ep⟩ := at_ints (ns := [v7, 0, 1 % b, b / 3]) i2.1 (by show iy < 4; exact i2.2)
  have p0 : 0 ≤ p ∧ p < b := by
    simp at hp
    rcases hp with rfl | rfl | rfl | rfl <;> omega
  clear hp
  refine ⟨l4, _, iy, _, rfl, rfl, SqL.of (B8 _ _ (D7.ne nl4) upd_same), ep, ?_⟩
  have Bd : But d H H8 := ((Bc.trans B7).trans s4.but).trans B8
  refine ⟨_, rfl, _, rfl, _, rfl, by show 3 ≤ sizeLine; decide, fun r nr => ?_⟩
  have s5 := same_new (o := .tup [.int t, .int p, .int b]) nr
  exact q _ r t p b (Bd.trans s5.but) ((D8.same s5).mono (by omega)) (Bd.free (D8.ne nr) nr) upd_same ⟨b0.1, by omega, t0.1, t0.2, p0.1, p0.2⟩ (by omega)
end
end Tw


namespace Tw
open PySem PySem.Spec PyProof.Rows L2
abbrev s_part : Stmt := topS 25
theorem sc_part : FnScope ["deck", "bound", "some"] ["deck", "bound"] (defScope s_part) := ⟨rfl, rfl, rfl, by decide +kernel, rfl, by decide +kernel, by decide +kernel⟩
abbrev s_same : Stmt := topS 26
theorem sc_same : FnScope ["found", "due", "one", "other"] ["found", "due"] (defScope s_same) := ⟨rfl, rfl, rfl, by decide +kernel, rfl, by decide +kernel, by decide +kernel⟩
section
variable {P : Program} {w : World} {K : PySem.W.Frag} {mg : Str → Option Value} {base : Heap}
theorem ok_part (D : Top K mg "_law_part" s_part ["deck", "bound"]) (h_draw : Has P w K mg base CX0 1 "_law_draw" ["deck", "most"] (sp2 (pDrB 1))) : Has P w K mg base CX0 2 "_law_part" ["deck", "bound"] (sp2 pPart) := by
  refine D.ok2 sc_part (fun f cdv A outer s H v1 v2 Q E hr h => ?_)
  obtain ⟨d, n, m, rfl, rfl, m0, m1, hD, hn, q⟩ := h
  refine ⟨_, (pss_cons (ps_set (i := 2) sc_part.nd rfl (.inl rfl) (pe_lst (pa_cons (pe_op op_add pe_int (pe_own h_draw (hr.mono (by decide)) pass0 (pa_cons (pv 0) (pa_cons pe_int pa_nil)))) (pa_cons (pe_op op_add pe_int (pe_own h_draw (hr.mono (by decide)) pass0 (pa_cons (pv 0) (pa_cons (pv 1) pa_nil)))) (pa_cons (pv 1) (pa_cons (pe_op op_add (pe_op op_fdivB (pv 1) pe_int) pe_int) pa_nil))))))
 (pss_cons (ps_expr (pe_bm PySem.F.plainAttrs_list PySem.F.slot_list_append PySem.F.type_list_append mt_append (pv 2) (pa_cons (pe_op op_add (pe_op op_add (pv 1) pe_int) (pe_own h_draw (hr.mono (by decide)) pass0 (pa_cons (pv 0) (pa_cons pe_int pa_nil)))) pa_nil)))
 (pss_one (ps_ret (pe_ix ix_list (pv 2) (pe_ix ix_list (pe_lst (pa_cons pe_int (pa_cons pe_int (pa_cons pe_int (pa_cons pe_int (pa_cons pe_int (pa_cons pe_int (pa_cons pe_int (pa_cons pe_int pa_nil))))))))) (pe_own h_draw (hr.mono (by decide)) pass0 (pa_cons (pv 0) (pa_cons pe_int pa_nil))) (fun _ _ => rfl)) (fun _ _ => rfl)))))), ?_⟩
  refine ⟨_, rfl, _, _, rfl, d, n, 12, rfl, rfl, by decide, by decide, hD, by omega, fun H1 u1 B1 D1 u10 u11 => ⟨_, _, rfl, rfl, ?_⟩⟩
  refine ⟨_, rfl, _, rfl, _, _, rfl, d, n + 1, m, rfl, rfl, by omega, by omega, D1, by omega, fun H2 u2 B2 D2 u20 u21 => ⟨_, _, rfl, rfl, ?_⟩⟩
  refine ⟨_, rfl, _, rfl, _, _, rfl, rfl, ⟨by decide, by decide⟩, _, _, rfl, rfl, by show 4 ≤ sizeLine; decide, fun l nl => ?_⟩
  have s1 := same_new (o := .lst [.int (1 + u1), .int (1 + u2), .int m, .int (m / 2 + 1)]) nl
  have nld := D2.ne nl
  refine ⟨_, rfl, .inl ⟨rfl, _, SqL.of upd_same⟩, _, rfl, _, _, rfl, rfl, _, rfl, _, _, rfl, d, n + 2, 999, rfl, rfl, by decide, by decide, D2.same s1, by omega, fun H3 u3 B3 D3 u30 u31 => ⟨_, _, rfl, rfl, ?_⟩⟩
  have hl3 := B3 _ _ nld upd_same
  refine ⟨l, _, _, rfl, rfl, hl3, by show 4 < sizeLine; decide, ?_⟩
  have D4 := D3.mut (o := .lst ([.int (1 + u1), .int (1 + u2), .int m, .int (m / 2 + 1)] ++ [.int (m + 1 + u3)])) nld
  have Ba : But d H H3 := ((B1.trans B2).trans s1.but).trans B3
  have Bb : But d H (upd H3 l (.lst ([.int (1 + u1), .int (1 + u2), .int m, .int (m / 2 + 1)] ++ [.int (m + 1 + u3)]))) := but_mut2 Ba ((B1.trans B2).free nld nl)
  have hl4 : (upd H3 l (.lst ([.int (1 + u1), .int (1 + u2), .int m, .int (m / 2 + 1)] ++ [.int (m + 1 + u3)]))) l = some (.lst ([1 + u1, 1 + u2, m, m / 2 + 1, m + 1 + u3].map V.int)) := upd_same
  generalize upd H3 l (.lst ([.int (1 + u1), .int (1 + u2), .int m, .int (m / 2 + 1)] ++ [.int (m + 1 + u3)])) = H4 at D4 Bb hl4
  refine ⟨_, rfl, by show 8 ≤ sizeLine; decide, fun l2 nl2 => ?_⟩
  have s2 := same_new (o := .lst [.int 0, .int 0, .int 1, .int 1, .int 1, .int 2, .int 3, .int 4]) nl2
  refine ⟨_, rfl, _, _, rfl, d, n + 3, 8, rfl, rfl, by decide, by decide, D4.same s2, by omega, fun H5 u4 B5 D5 u40 u41 => ?_⟩
  obtain ⟨x, hx, ex⟩ := at_ints (ns := [0, 0, 1, 1, 1, 2, 3, 4]) u40 (by show u4 < 8; exact u41)
  have bx : 0 ≤ x ∧ x < 5 := (by decide : ∀ x ∈ ([0, 0, 1, 1, 1, 2, 3, 4] : List Int), 0 ≤ x ∧ x < 5) x hx
  refine ⟨l2, _, u4, _, rfl, rfl, SqL.of (B5 _ _ (D4.ne nl2) upd_same), ex, ?_⟩
  obtain ⟨y, hy, ey⟩ := at_ints (ns := [1 + u1, 1 + u2, m, m / 2 + 1, m + 1 + u3]) bx.1 (by show x < 5; exact bx.2)
  have by' : 1 ≤ y ∧ y ≤ m + 1000 := by
    simp at hy
    rcases hy with rfl | rfl | rfl | rfl | rfl <;> omega
  refine ⟨l, _, x, _, rfl, rfl, SqL.of (B5 _ _ nld (s2 _ _ hl4)), ey, ?_⟩
  exact q _ y ((Bb.trans s2.but).trans B5) (D5.mono (by omega)) by'.1 by'.2
theorem ok_same0 (D : Top K mg "_law_same" s_same ["found", "due"]) : Has P w K mg base CX0 1 "_law_same" ["found", "due"] (sp2 fun _ _ _ _ _ => False) := D.ok2 sc_same (fun _ _ _ _ _ _ _ _ _ _ _ h => h.elim)
theorem ok_same1 (D : Top K mg "_law_same" s_same ["found", "due"]) (z_isinstance : mg "isinstance" = none) (z_int : mg "int" = none) (z_bool : mg "bool" = none) (z_tuple : mg "tuple" = none) (z_str : mg "str" = none) (z_len : mg "len" = none) (z_zip : mg "zip" = none) : Has P w K mg base CX0 2 "_law_same" ["found", "due"] (sp2 pSame1) := by
  have h_same := ok_same0 (P := P) (w := w) (base := base) D
  refine D.ok2 sc_same (fun f cdv A outer s H v1 v2 Q E hr h => ?_)
  refine ⟨_, (pss_cons (ps_if (pt_cmpR op_isN (pv 1) pe_non (nomark _)) (pss_one (ps_ret (pe_cmpR op_isN (pv 0) pe_non (nomark _)))) pss_nil)
 (pss_cons (ps_if (pt_val (pe_callB (id := "isinstance") call_isA (by rfl) z_isinstance (by decide +kernel) (pa_cons (pv 1) (pa_cons (pe_bltn (v := .ty "tuple") (by rfl) z_tuple (by decide +kernel) rfl) pa_nil)))) (pss_cons (ps_if (PW.pt (pw_or (pt_not (pt_val (pe_callB (id := "isinstance") call_isA (by rfl) z_isinstance (by decide +kernel) (pa_cons (pv 0) (pa_cons (pe_bltn (v := .ty "tuple") (by rfl) z_tuple (by decide +kernel) rfl) pa_nil))))) (pw_or1 (pt_cmpR op_ne (pe_callB (id := "len") call_len_seq (by rfl) z_len (by decide +kernel) (pa_cons (pv 0) pa_nil)) (pe_callB (id := "len") call_len_seq (by rfl) z_len (by decide +kernel) (pa_cons (pv 1) pa_nil)) (nomark _))))) (pss_one (ps_ret pe_bl)) pss_nil)
 (pss_one (ps_ret (pe_cmpR (op_eqD hr.units) (pe_lc (own := [("one", 2), ("other", 3)]) (by rfl) sc_same.nd (pi_x2 (by rfl) z_zip (pa_cons (pv 0) (pa_cons (pv 1) pa_nil))) (blkOk_by (own := [("one", 2), ("other", 3)]) (N := ["found", "due", "one", "other"]) (sc := defScope s_same) (by decide +kernel)) (fun _ _ _ _ _ => tup_in (K := K) (n := 2) rfl rfl (pgs_cons (pg_name (i := 2) sc_same.nd rfl (Or.inl rfl)) (pgs_cons (pg_name (i := 3) sc_same.nd rfl (Or.inl rfl)) pgs_nil))) (fun _ _ _ _ _ => pts_one (pt_not (pt_val (pe_own h_same (hr.mono (by decide)) pass0 (pa_cons (pv 2) (pa_cons (pv 3) pa_nil)))))) (fun _ _ _ _ _ => pe_int)) (pe_lst pa_nil) (nomark _))))) pss_nil)
 (pss_cons (ps_if (pt_val (pe_callB (id := "isinstance") call_isA (by rfl) z_isinstance (by decide +kernel) (pa_cons (pv 1) (pa_cons (pe_bltn (v := .ty "str") (by rfl) z_str (by decide +kernel) rfl) pa_nil)))) (pss_one (ps_ret (pe_and (pe_callB (id := "isinstance") call_isA (by rfl) z_isinstance (by decide +kernel) (pa_cons (pv 0) (pa_cons (pe_bltn (v := .ty "str") (by rfl) z_str (by decide +kernel) rfl) pa_nil))) (pe_one (pe_cmpR op_eq (pv 0) (pv 1) (nomark _)))))) pss_nil)
 (pss_one (ps_ret (pe_and (pe_callB (id := "isinstance") call_isA (by rfl) z_isinstance (by decide +kernel) (pa_cons (pv 0) (pa_cons (pe_bltn (v := .ty "int") (by rfl) z_int (by decide +kernel) rfl) pa_nil))) (pe_and (pe_not (pe_callB (id := "isinstance") call_isA (by rfl) z_isinstance (by decide +kernel) (pa_cons (pv 0) (pa_cons (pe_bltn (v := .ty "bool") (by rfl) z_bool (by decide +kernel) rfl) pa_nil)))) (pe_one (pe_cmpR op_eq (pv 0) (pv 1) (nomark _)))))))))), ?_⟩
  rcases h with ⟨x, y, rfl, rfl, q⟩ | ⟨rfl, rfl, q⟩
  · refine ⟨_, rfl, rfl, _, rfl, ifF rfl ?_⟩
    refine ⟨_, rfl, .inr ⟨_, _, _, _, false, rfl, .ty _, .base (.int y), kit_ty (by decide +kernel), _, rfl, ifF rfl ?_⟩⟩
    refine ⟨_, rfl, .inr ⟨_, _, _, _, false, rfl, .ty _, .base (.int y), kit_ty (by decide +kernel), _, rfl, ifF rfl ?_⟩⟩
    refine ⟨_, rfl, .inr ⟨_, _, _, _, true, rfl, .ty _, .base (.int x), kit_ty (by decide +kernel), _, rfl, ifT rfl ?_⟩⟩
    refine ⟨_, rfl, .inr ⟨_, _, _, _, false, rfl, .ty _, .base (.int x), kit_ty (by decide +kernel), _, rfl, _, rfl, ifT rfl ?_⟩⟩
    refine ⟨_, rfl, _, rfl, rfl, ?_⟩
    have e : (decide (V.int x = V.int y)) = decide (x = y) := by
      by_cases h : x = y
      · rw [h]; simp
      · have : ¬ V.int x = V.int y := fun z => h (V.int.inj z)
        simp [h]
    rw [← e] at q
    exact q
  · exact ⟨_, rfl, rfl, _, rfl, ifT rfl ⟨_, rfl, rfl, q⟩⟩
theorem ok_same2 (D : Top K mg "_law_same" s_same ["found", "due"]) (h_same : Has P w K mg base CX0 2 "_law_same" ["found", "due"] (sp2 pSame1)) (z_isinstance : mg "isinstance" = none) (z_int : mg "int" = none) (z_bool : mg "bool" = none) (z_tuple : mg "tuple" = none) (z_str : mg "str" = none) (z_len : mg "len" = none) (z_zip : mg "zip" = none) : Has P w K mg base CX0 3 "_law_same" ["found", "due"] (sp2 (pSame2 K)) := by
  refine D.ok2 sc_same (fun f cdv A outer s H v1 v2 Q E hr h => ?_)
  obtain ⟨a, b, xs, rfl, rfl, ha, hb, q⟩ := h
  refine ⟨_, (pss_cons (ps_if (pt_cmpR op_isN (pv 1) pe_non (nomark _)) (pss_one (ps_ret (pe_cmpR op_isN (pv 0) pe_non (nomark _)))) pss_nil)
 (pss_cons (ps_if (pt_val (pe_callB (id := "isinstance") call_isA (by rfl) z_isinstance (by decide +kernel) (pa_cons (pv 1) (pa_cons (pe_bltn (v := .ty "tuple") (by rfl) z_tuple (by decide +kernel) rfl) pa_nil)))) (pss_cons (ps_if (PW.pt (pw_or (pt_not (pt_val (pe_callB (id := "isinstance") call_isA (by rfl) z_isinstance (by decide +kernel) (pa_cons (pv 0) (pa_cons (pe_bltn (v := .ty "tuple") (by rfl) z_tuple (by decide +kernel) rfl) pa_nil))))) (pw_or1 (pt_cmpR op_ne (pe_callB (id := "len") call_len_seq (by rfl) z_len (by decide +kernel) (pa_cons (pv 0) pa_nil)) (pe_callB (id := "len") call_len_seq (by rfl) z_len (by decide +kernel) (pa_cons (pv 1) pa_nil)) (nomark _))))) (pss_one (ps_ret pe_bl)) pss_nil)
 (pss_one (ps_ret (pe_cmpR (op_eqD hr.units) (pe_lc (own := [("one", 2), ("other", 3)]) (by rfl) sc_same.nd (pi_x2 (by rfl) z_zip (pa_cons (pv 0) (pa_cons (pv 1) pa_nil))) (blkOk_by (own := [("one", 2), ("other", 3)]) (N := ["found", "due", "one", "other"]) (sc := defScope s_same) (by decide +kernel)) (fun _ _ _ _ _ => tup_in (K := K) (n := 2) rfl rfl (pgs_cons (pg_name (i := 2) sc_same.nd rfl (Or.inl rfl)) (pgs_cons (pg_name (i := 3) sc_same.nd rfl (Or.inl rfl)) pgs_nil))) (fun _ _ _ _ _ => pts_one (pt_not (pt_val (pe_own h_same (hr.mono (by decide)) pass0 (pa_cons (pv 2) (pa_cons (pv 3) pa_nil)))))) (fun _ _ _ _ _ => pe_int)) (pe_lst pa_nil) (nomark _))))) pss_nil)
 (pss_cons (ps_if (pt_val (pe_callB (id := "isinstance") call_isA (by rfl) z_isinstance (by decide +kernel) (pa_cons (pv 1) (pa_cons (pe_bltn (v := .ty "str") (by rfl) z_str (by decide +kernel) rfl) pa_nil)))) (pss_one (ps_ret (pe_and (pe_callB (id := "isinstance") call_isA (by rfl) z_isinstance (by decide +kernel) (pa_cons (pv 0) (pa_cons (pe_bltn (v := .ty "str") (by rfl) z_str (by decide +kernel) rfl) pa_nil))) (pe_one (pe_cmpR op_eq (pv 0) (pv 1) (nomark _)))))) pss_nil)
 (pss_one (ps_ret (pe_and (pe_callB (id := "isinstance") call_isA (by rfl) z_isinstance (by decide +kernel) (pa_cons (pv 0) (pa_cons (pe_bltn (v := .ty "int") (by rfl) z_int (by decide +kernel) rfl) pa_nil))) (pe_and (pe_not (pe_callB (id := "isinstance") call_isA (by rfl) z_isinstance (by decide +kernel) (pa_cons (pv 0) (pa_cons (pe_bltn (v := .ty "bool") (by rfl) z_bool (by decide +kernel) rfl) pa_nil)))) (pe_one (pe_cmpR op_eq (pv 0) (pv 1) (nomark _)))))))))), ?_⟩
  refine ⟨_, rfl, rfl, _, rfl, ifF rfl ?_⟩
  refine ⟨_, rfl, .inr ⟨_, _, _, _, true, rfl, .ty _, .base (.tup hb), kit_ty (by decide +kernel), _, rfl, ifT rfl ?_⟩⟩
  refine ⟨_, rfl, .inr ⟨_, _, _, _, true, rfl, .ty _, .base (.tup ha), kit_ty (by decide +kernel), _, rfl, ifF rfl ?_⟩⟩
  refine ⟨_, rfl, a, _, rfl, .inr (SqT.of ha), _, rfl, b, _, rfl, .inr (SqT.of hb), rfl, _, rfl, ifNI (fun z => absurd rfl z) (fun _ => ?_)⟩
  refine ⟨_, rfl, _, rfl, true, true, a, b, _, _, rfl, SqT.of ha, SqT.of hb, fun L nL => ?_⟩
  refine lc_it (walk_x2 (K := K) (t1 := true) (t2 := true) (a1 := a) (a2 := b) (l1 := xs.map V.int) (l2 := xs.map V.int) (n := xs.length) (by rw [List.length_map]; omega)) (fun j H' => ∃ H0, Same H H0 ∧ H0 L = none ∧ H' = upd H0 L (.lst [])) ⟨H, fun _ _ z => z, nL, rfl⟩ ?_ ?_ ?_
  · rintro i H' _ ⟨H0, s0, n0, rfl⟩
    have s2 : Same H (upd H0 L (.lst [])) := s0.trans (same_new n0)
    exact ⟨SqT.of (s2 _ _ ha), SqT.of (s2 _ _ hb)⟩
  · rintro i x H' H'' hi ⟨H0, s0, n0, rfl⟩ ⟨T, x1, x2, rfl, nT, rfl, g1, g2⟩
    obtain ⟨rfl, l1⟩ := vget g1
    obtain ⟨rfl, l2⟩ := vget g2
    have neT : L ≠ T := fun z => by rw [← z, upd_same] at nT; cases nT
    have nT0 : H0 T = none := by rw [upd_ne (Ne.symm neT)] at nT; exact nT
    refine ⟨T, _, rfl, SqT.of upd_same, rfl, _, _, rfl, _, _, rfl, rfl, rfl, ?_⟩
    refine ⟨_, rfl, _, rfl, _, _, rfl, .inl ⟨_, _, rfl, rfl, _, rfl, ?_⟩⟩
    rw [decide_eq_true rfl]
    refine ifF rfl ⟨upd H0 T (.tup [.int (xs.getD i 0), .int (xs.getD i 0)]), s0.trans (same_new nT0), by rw [upd_ne neT]; exact n0, ?_⟩
    rw [upd_swap neT]
  · rintro H' ⟨H0, s0, n0, rfl⟩
    refine ⟨by show 0 ≤ sizeLine; decide, fun E0 nE => ?_⟩
    have s2 := same_new (o := .lst []) n0
    have s3 := same_new (o := .lst []) nE
    refine ⟨.list (([] : List Int).map PyData.int), .list (([] : List Int).map PyData.int), .lst (SqL.of (s3 _ _ upd_same)) (dp_ints []), .lst (SqL.of upd_same) (dp_ints []), shp_lints [], shp_lints [], ?_⟩
    rw [eqv_self (shp_lints [])]
    exact q _ (s0.trans (s2.trans s3))
end
end Tw


namespace Tw
open PySem PySem.Spec PyProof.Rows L2
abbrev s_row : Stmt := topS 24
theorem sc_row : FnScope ["rule", "start", "many", "found", "number", "k"] ["rule", "start", "many"] (defScope s_row) := ⟨rfl, rfl, rfl, by decide +kernel, rfl, by decide +kernel, by decide +kernel⟩
section
variable {P : Program} {w : World} {K : PySem.W.Frag} {mg : Str → Option Value} {base : Heap}
theorem ok_lrow (D : Top K mg "_law_row" s_row ["rule", "start", "many"]) (z_range : mg "range" = none) : Has P w K mg base CX0 1 "_law_row" ["rule", "start", "many"] (sp3 (pRowB K)) := by
  refine D.ok3 sc_row (fun f cdv A outer s H v1 v2 v3 Q E hr h => ?_)
  obtain ⟨r, t, p, m, s0, n, rfl, rfl, rfl, hr1, R, a0, a1, n0, n1, q⟩ := h
  refine ⟨_, (pss_cons (ps_set (i := 3) sc_row.nd rfl (.inl rfl) (pe_lst pa_nil))
 (pss_cons (ps_set (i := 4) sc_row.nd rfl (.inl rfl) (pv 1))
 (pss_cons (ps_for PassesOwn.never rfl (pi_range1 (by rfl) z_range (pa_cons (pv 2) pa_nil)) (pg_name (i := 5) sc_row.nd rfl (.inl rfl)) (pss_cons (ps_expr (pe_bm PySem.F.plainAttrs_list PySem.F.slot_list_append PySem.F.type_list_append mt_append (pv 3) (pa_cons (pv 4) pa_nil)))
 (pss_one (ps_set (i := 4) sc_row.nd rfl (.inl rfl) (pe_op op_mod (pe_op op_add (pe_op op_mulB (pe_ix ix_tup (pv 0) pe_int (fun _ _ => rfl)) (pv 4)) (pe_ix ix_tup (pv 0) pe_int (fun _ _ => rfl))) (pe_ix ix_tup (pv 0) pe_int (fun _ _ => rfl)))))))
 (pss_one (ps_ret (pv 3)))))), ?_⟩
  have m0 : 0 < m := by have := R.b1; omega
  have := R.b2
  have := R.t0
  have := R.t1
  refine ⟨by show 0 ≤ sizeLine; decide, fun l nl => ?_⟩
  have s1 := same_new (o := .lst []) nl
  refine ⟨_, rfl, _, rfl, n, rfl, by omega, by omega, for_range (lo := 0) (n := n.toNat) (fun i σ H' => ∃ (y : Option V), σ = [some (.ref r), some (.int s0), some (.int n), some (.ref l), some (.int (itr (stp t p m) i s0)), y] ∧ H' = upd H l (.lst ((orb (stp t p m) i s0).map V.int))) ⟨none, rfl, rfl⟩ ?_ ?_⟩
  · rintro i σ H' hi ⟨y, rfl, rfl⟩
    have ir := itr_rng (t := t) (p := p) m0 ⟨a0, a1⟩ i
    refine ⟨_, rfl, .inl ⟨rfl, _, SqL.of upd_same⟩, _, rfl, l, _, _, rfl, rfl, upd_same, szl (by rw [List.length_map, orb_len]; omega), ?_⟩
    rw [upd_upd, show (orb (stp t p m) i s0).map V.int ++ [.int (itr (stp t p m) i s0)] = (orb (stp t p m) (i + 1) s0).map V.int by rw [orb_succ, List.map_append]; rfl]
    have s2 : Same H (upd H l (.lst ((orb (stp t p m) (i + 1) s0).map V.int))) := same_new nl
    refine ⟨_, rfl, r, _, 0, .int t, rfl, rfl, s2.tup hr1, rfl, _, rfl, _, _, rfl, rfl, ⟨by unfold Big; omega, by unfold Big; omega⟩, _, rfl, r, _, 1, .int p, rfl, rfl, s2.tup hr1, rfl, _, _, rfl, rfl, _, rfl, r, _, 2, .int m, rfl, rfl, s2.tup hr1, rfl, _, _, rfl, rfl, m0, ?_⟩
    exact ⟨some (.int (0 + i)), rfl, rfl⟩
  · rintro σ H' ⟨y, rfl, rfl⟩
    exact ⟨_, rfl, q _ l (same_new nl) nl upd_same⟩
end
end Tw


namespace Tw
open PySem PySem.Spec PyProof.Rows L2
abbrev s_init : Stmt := inClass (topS 6) 0
theorem sc_init : FnScope ["self", "number"] ["self", "number"] (defScope s_init) := ⟨rfl, rfl, rfl, by decide +kernel, rfl, by decide +kernel, by decide +kernel⟩
abbrev s_is_whole : Stmt := topS 8
theorem sc_is_whole : FnScope ["thing"] ["thing"] (defScope s_is_whole) := ⟨rfl, rfl, rfl, by decide +kernel, rfl, by decide +kernel, by decide +kernel⟩
abbrev s_is_number : Stmt := topS 9
theorem sc_is_number : FnScope ["thing", "bound"] ["thing", "bound"] (defScope s_is_number) := ⟨rfl, rfl, rfl, by decide +kernel, rfl, by decide +kernel, by decide +kernel⟩
abbrev s_check_number : Stmt := topS 10
theorem sc_check_number : FnScope ["number", "bound"] ["number", "bound"] (defScope s_check_number) := ⟨rfl, rfl, rfl, by decide +kernel, rfl, by decide +kernel, by decide +kernel⟩
section
variable {P : Program} {w : World} {K : PySem.W.Frag} {mg : Str → Option Value} {base : Heap}
theorem ok_init {f CR : Addr} {fd : FuncData} (F : Fun K "__init__" "NoNumber.__init__" s_init f fd) (g_RowError : mg "RowError" = some (.ref CR)) (r_RowError : ClX.CRead K CR (.type "type"))
    (i_RowError : PySem.W.findCls K (.ref CR) (.type "type") "__init__" = some (.val (.builtin "ValueError.__init__"))) : FnOk P w K mg base CX0 1 f fd ["self", "number"] (spInit K) := by
  refine F.ok sc_init (fun vs H Q E h => ?_) (fun cdv A outer s H vs Q E hr h => ?_)
  · obtain ⟨_, _, rfl, _⟩ := h; rfl
  obtain ⟨_, v, rfl, a, C, rfl, T, nf, ha, q⟩ := h
  refine ⟨_, pss_cons (ps_expr (pe_ownInit (by rfl) g_RowError r_RowError i_RowError (pa_cons (pv 0) (pa_cons pe_str pa_nil)))) (pss_one (ps_ost (pv 0) (pv 1))), ?_⟩
  refine ⟨_, rfl, a, C, _, rfl, by show 1 ≤ 1000; decide, T, ha, ?_⟩
  exact ⟨_, rfl, _, rfl, a, C, rfl, T, nf, .inl ⟨ha, fun d nd ne => q d nd ne⟩⟩
theorem ok_is_whole (D : Top K mg "is_whole" s_is_whole ["thing"]) (z_isinstance : mg "isinstance" = none) (z_int : mg "int" = none) (z_bool : mg "bool" = none) : Has P w K mg base CX0 1 "is_whole" ["thing"] (sp1 pWhole) := by
  refine D.ok1 sc_is_whole (fun f cdv A outer s H v1 Q E hr h => ?_)
  obtain ⟨n, rfl, q⟩ := h
  refine ⟨_, (pss_one (ps_ret (pe_and (pe_callB (id := "isinstance") call_isA (by rfl) z_isinstance (by decide +kernel) (pa_cons (pv 0) (pa_cons (pe_bltn (v := .ty "int") (by rfl) z_int (by decide +kernel) rfl) pa_nil))) (pe_one (pe_not (pe_callB (id := "isinstance") call_isA (by rfl) z_isinstance (by decide +kernel) (pa_cons (pv 0) (pa_cons (pe_bltn (v := .ty "bool") (by rfl) z_bool (by decide +kernel) rfl) pa_nil)))))))), ?_⟩
  refine ⟨_, rfl, .inr ⟨_, _, _, _, true, rfl, .ty _, .base (.int n), kit_ty (by decide +kernel), _, rfl, ifT rfl ?_⟩⟩
  exact ⟨_, rfl, .inr ⟨_, _, _, _, false, rfl, .ty _, .base (.int n), kit_ty (by decide +kernel), _, rfl, q⟩⟩
theorem ok_is_number (D : Top K mg "is_number" s_is_number ["thing", "bound"]) (h_is_whole : Has P w K mg base CX0 1 "is_whole" ["thing"] (sp1 pWhole)) : Has P w K mg base CX0 2 "is_number" ["thing", "bound"] (sp2 pIsNum) := by
  refine D.ok2 sc_is_number (fun f cdv A outer s H v1 v2 Q E hr h => ?_)
  obtain ⟨n, m, rfl, rfl, q⟩ := h
  refine ⟨_, (pss_one (ps_ret (pe_and (pe_own h_is_whole (hr.mono (by decide)) pass0 (pa_cons (pv 0) pa_nil)) (pe_one (pe_chain op_le op_lt pe_int (pv 0) (pv 1)))))), ?_⟩
  refine ⟨_, rfl, _, rfl, n, rfl, _, rfl, ifT rfl ?_⟩
  refine ⟨_, rfl, _, _, rfl, rfl, _, rfl, ifD (fun l => ⟨_, rfl, _, _, rfl, rfl, ?_⟩) (fun l => ?_)⟩
  · have e : decide (0 ≤ n ∧ n < m) = decide (n < m) := by
      by_cases h : n < m <;> simp [h, l]
    rw [e] at q
    exact q
  · have e : decide (0 ≤ n ∧ n < m) = false := decide_eq_false fun z => l z.1
    rw [e] at q
    exact q
theorem ok_check_number {CN fI : Addr} {fdI : FuncData} (D : Top K mg "check_number" s_check_number ["number", "bound"]) (h_is_number : Has P w K mg base CX0 2 "is_number" ["thing", "bound"] (sp2 pIsNum)) (oex_NoNumber : OexC K CN)
    (n_NoNumber : PySem.W.findIn K (.ref CN) "__init__" = some (some (.ref fI))) (t_NoNumber : PySem.W.typeIn K (.ref fI) = some (.type "function")) (F_NoNumber : FnOk P w K mg base CX0 1 fI fdI ["self", "number"] (spInit K)) (b_NoNumber : Binds K fdI ["self", "number"] [])
    (g_NoNumber : mg "NoNumber" = some (.ref CN)) (nf : PySem.W.findIn K (.ref CN) "number" = some none) : Has P w K mg base (L2.CX P w) 3 "check_number" ["number", "bound"] (sp2 (pCheck CN)) := by
  refine D.ok2X sc_check_number (fun f cdv A outer s H v1 v2 Q E hr h => ?_)
  obtain ⟨n, m, rfl, rfl, q, e⟩ := h
  refine ⟨_, (pss_one (ps_if (pt_not (pt_val (pe_own h_is_number (hr.mono (by decide)) pass0 (pa_cons (pv 0) (pa_cons (pv 1) pa_nil))))) (pss_one (ps_raise rfl (takes_of rfl rfl rfl rfl) (pmk_oex oex_NoNumber n_NoNumber t_NoNumber F_NoNumber (hr.mono (by decide)) b_NoNumber .nil pass0 (by rfl) g_NoNumber (pa_cons (pv 0) pa_nil)))) pss_nil)), ?_⟩
  have bad : ¬ (0 ≤ n ∧ n < m) → _ := fun hn => e hn
  refine ⟨_, rfl, _, rfl, _, _, rfl, n, m, rfl, rfl, _, rfl, ifN (fun l => ?_) (fun l => q l.1 l.2)⟩
  refine ⟨_, rfl, by show 1 ≤ 1000; decide, fun a na => ⟨_, _, rfl, a, CN, rfl, oex_NoNumber, nf, upd_same, fun d nd ne => ⟨rfl, d, [("number", .int n)], upd_same, ?_, ?_, ?_⟩⟩⟩
  · rw [upd_ne ne, upd_same]
  · rw [upd_ne ne] at nd; exact nd
  · rw [made_eq na ne]
    rw [upd_ne ne] at nd
    exact bad l d nd
end
end Tw


namespace Tw
open PySem PySem.Spec PyProof.Rows L2
abbrev s_next_of : Stmt := topS 12
theorem sc_next_of : FnScope ["rule", "number", "times", "plus", "bound"] ["rule", "number"] (defScope s_next_of) := ⟨rfl, rfl, rfl, by decide +kernel, rfl, by decide +kernel, by decide +kernel⟩
section
variable {P : Program} {w : World} {K : PySem.W.Frag} {mg : Str → Option Value} {base : Heap}
theorem ok_next_of {CN : Addr} (D : Top K mg "next_of" s_next_of ["rule", "number"]) (h_check_number : Has P w K mg base (L2.CX P w) 3 "check_number" ["number", "bound"] (sp2 (pCheck CN))) :
    Has P w K mg base (L2.CX P w) 4 "next_of" ["rule", "number"] (sp2 (pNextOf K CN)) := by
  refine D.ok2X sc_next_of (fun f cdv A outer s H v1 v2 Q E hr h => ?_)
  obtain ⟨r, t, p, m, n, rfl, rfl, hr1, R, q, e⟩ := h
  refine ⟨_, (pss_cons (ps_asg (pv 0) (pg_tup rfl (pgs_cons (pg_name (i := 2) sc_next_of.nd rfl (.inl rfl)) (pgs_cons (pg_name (i := 3) sc_next_of.nd rfl (.inl rfl)) (pgs_cons (pg_name (i := 4) sc_next_of.nd rfl (.inl rfl)) pgs_nil)))))
 (pss_cons (ps_expr (pe_own h_check_number (hr.mono (by decide)) (passes_call (takes_of rfl rfl rfl rfl) (fun _ _ _ _ z => z)) (pa_cons (pv 1) (pa_cons (pv 4) pa_nil))))
 (pss_one (ps_ret (pe_op op_mod (pe_op op_add (pe_op op_mulB (pv 2) (pv 1)) (pv 3)) (pv 4)))))), ?_⟩
  refine ⟨_, rfl, r, _, rfl, hr1, rfl, _, _, rfl, _, _, rfl, _, _, rfl, rfl, ?_⟩
  refine ⟨_, rfl, _, rfl, _, _, rfl, n, m, rfl, rfl, fun n0 n1 => ?_, e⟩
  have := R.b2
  have := R.t0
  have := R.t1
  have := R.b1
  exact ⟨_, rfl, _, rfl, _, _, rfl, rfl, ⟨by unfold Big; omega, by unfold Big; omega⟩, _, rfl, _, _, rfl, rfl, _, rfl, _, _, rfl, rfl, (show (0 : Int) < m by omega), q n0 n1⟩
end
end Tw


namespace Tw
open PySem PySem.Spec PyProof.Rows L2
abbrev s_by_one_part_more : Stmt := topS 18
theorem sc_by_one_part_more : FnScope ["classes", "leads_to", "part", "found", "finer", "number", "following", "told"] ["classes", "leads_to", "part"] (defScope s_by_one_part_more) := ⟨rfl, rfl, rfl, by decide +kernel, rfl, by decide +kernel, by decide +kernel⟩
abbrev s_how_many : Stmt := topS 17
theorem sc_how_many : FnScope ["classes"] ["classes"] (defScope s_how_many) := ⟨rfl, rfl, rfl, by decide +kernel, rfl, by decide +kernel, by decide +kernel⟩
abbrev s_least_parts : Stmt := topS 16
theorem sc_least_parts : FnScope ["rule", "part", "is_settled", "leads_to", "classes", "many", "finer", "number"] ["rule", "part", "is_settled"] (defScope s_least_parts) := ⟨rfl, rfl, rfl, by decide +kernel, rfl, by decide +kernel, by decide +kernel⟩
section
variable {P : Program} {w : World} {K : PySem.W.Frag} {mg : Str → Option Value} {base : Heap}
theorem ok_how_many (D : Top K mg "how_many" s_how_many ["classes"]) (z_max : mg "max" = none) : Has P w K mg base CX0 1 "how_many" ["classes"] (sp1 (pHow K)) := by
  refine D.ok1 sc_how_many (fun f cdv A outer s H v1 Q E hr h => ?_)
  obtain ⟨lc, cl, rfl, hc, l0, q⟩ := h
  refine ⟨_, (pss_one (ps_ret (pe_op op_add (pe_callB (id := "max") (cr_max rfl) (by rfl) z_max (by decide +kernel) (pa_cons (pv 0) pa_nil)) pe_int))), ?_⟩
  exact ⟨_, rfl, lc, cl, rfl, hc, l0, fun M h1 h2 => ⟨_, _, rfl, rfl, q M ⟨h1, h2⟩⟩⟩
theorem ok_by_one_part_more (D : Top K mg "by_one_part_more" s_by_one_part_more ["classes", "leads_to", "part"]) (z_enumerate : mg "enumerate" = none) (z_len : mg "len" = none) : Has P w K mg base CX0 1 "by_one_part_more" ["classes", "leads_to", "part"] (sp3 (pMore K)) := by
  refine D.ok3 sc_by_one_part_more (fun f cdv A outer s H v1 v2 v3 Q E hr h => ?_)
  obtain ⟨lc, ll, g, m, pt, k, cl, rfl, rfl, rfl, hc, hll, fr, m0, mM, p1, pM, C, q⟩ := h
  refine ⟨_, (pss_cons (ps_set (i := 3) sc_by_one_part_more.nd rfl (.inl rfl) pe_dnewT)
 (pss_cons (ps_set (i := 4) sc_by_one_part_more.nd rfl (.inl rfl) (pe_lst pa_nil))
 (pss_cons (ps_for PassesOwn.never rfl (pi_enum (by rfl) z_enumerate (pa_cons (pv 1) pa_nil)) (pg_tup rfl (pgs_cons (pg_name (i := 5) sc_by_one_part_more.nd rfl (.inl rfl)) (pgs_cons (pg_name (i := 6) sc_by_one_part_more.nd rfl (.inl rfl)) pgs_nil))) (pss_cons (ps_set (i := 7) sc_by_one_part_more.nd rfl (.inl rfl) (pe_tup (pa_cons (pe_op op_fdivB (pv 5) (pv 2)) (pa_cons (pe_ix ix_list (pv 0) (pv 6) (fun _ _ => rfl)) pa_nil))))
 (pss_one (ps_expr (pe_bm PySem.F.plainAttrs_list PySem.F.slot_list_append PySem.F.type_list_append mt_append (pv 4) (pa_cons (pe_setdT (hu_of hr) (pv 3) (pv 7) (pe_callB (id := "len") call_len_dT (by rfl) z_len (by decide +kernel) (pa_cons (pv 3) pa_nil)) ⟨rfl, rfl, rfl, rfl⟩) pa_nil))))))
 (pss_one (ps_ret (pv 4)))))), ?_⟩
  intro Dd nD
  have sD := same_new (o := .dT []) nD
  refine ⟨by show 0 ≤ sizeLine; decide, fun Fi nF => ?_⟩
  have sF := same_new (o := .lst []) nF
  have s1 := sD.trans sF
  have hD1 := sF _ _ (upd_same (H := H) (a := Dd) (o := .dT []))
  have hF1 := upd_same (H := upd H Dd (.dT [])) (a := Fi) (o := .lst [])
  have nFH := sD.free nF
  have nDF : Dd ≠ Fi := fun z => by rw [← z, upd_same] at nF; cases nF
  generalize upd (upd H Dd (.dT [])) Fi (.lst []) = H1 at s1 hD1 hF1 ⊢
  have lal : ((alls m).map g).length = m.toNat := by rw [List.length_map, alls_len]
  refine ⟨_, rfl, ll, _, rfl, s1.seq hll, for_it (walk_enum (K := K) (a := ll) (xs := ((alls m).map g).map V.int)) (fun i σ H' => ∃ (y5 y6 y7 : Option V) (ks : List (Int × Int)), σ = [some (.ref lc), some (.ref ll), some (.int pt), some (.ref Dd), some (.ref Fi), y5, y6, y7] ∧ Same H H' ∧ H' Dd = some (.dT (enumT 0 ks)) ∧ H' Fi = some (.lst ((fiL g pt cl ks i).map V.int)) ∧ KyS g pt cl i ks ∧ ks.length ≤ i) ⟨_, _, _, [], rfl, s1, hD1, hF1, ⟨List.nodup_nil, (fun q hq => by cases hq), fun x hx => absurd hx (Nat.not_lt_zero _)⟩, Nat.le_refl _⟩ ?_ ?_ ?_⟩
  · rintro i σ H' _ ⟨y5, y6, y7, ks, rfl, sm, _⟩
    exact sm.seq hll
  · rintro i x σ Ha Ha' hi ⟨y5, y6, y7, ks, rfl, sm, hD, hF, KS, kl⟩ ⟨T0, x1, x2, rfl, nT, rfl, k1, k2⟩
    cases k1
    obtain ⟨rfl, li⟩ := vget k2
    rw [lal] at li
    have ex : ((alls m).map g).getD i 0 = g (i : Int) := by
      rw [List.getD_eq_getElem?_getD, List.getElem?_map]
      unfold alls
      rw [List.getElem?_map, List.getElem?_range li]
      rfl
    rw [ex]
    have sT := same_new (o := .tup [.int (i : Nat), .int (g (i : Int))]) nT
    refine ⟨T0, _, rfl, SqT.of upd_same, rfl, _, _, rfl, _, _, rfl, rfl, ?_⟩
    have gr := fr (i : Int)
    have ca := atI_z (cs := cl) (x := g (i : Int)) gr.1 (by have := C.len; omega)
    have sma := sm.trans sT
    refine ⟨_, rfl, _, rfl, _, _, rfl, rfl, ⟨by omega, by omega⟩, _, rfl, _, rfl, lc, _, _, _, rfl, rfl, sma.seq hc, ca, by show 2 ≤ sizeLine; decide, fun U nU => ?_⟩
    have sU := same_new (o := .tup [.int ((i : Int) / pt), .int (cl.getD (g (i : Int)).toNat 0)]) nU
    have hU := upd_same (H := upd Ha T0 (.tup [.int (i : Nat), .int (g (i : Int))])) (a := U) (o := .tup [.int ((i : Int) / pt), .int (cl.getD (g (i : Int)).toNat 0)])
    have hD2 := (sT.trans sU) _ _ hD
    have hF2 := (sT.trans sU) _ _ hF
    have sm2 := sma.trans sU
    replace hU : (upd (upd Ha T0 (.tup [.int (i : Nat), .int (g (i : Int))])) U (.tup [.int ((i : Int) / pt), .int (cl.getD (g (i : Int)).toNat 0)])) U = some (.tup ((keyT (kyC g pt cl i)).map kV)) := hU
    generalize upd (upd Ha T0 (.tup [.int (i : Nat), .int (g (i : Int))])) U (.tup [.int ((i : Int) / pt), .int (cl.getD (g (i : Int)).toNat 0)]) = H2 at hU hD2 hF2 sm2 ⊢
    have ksz : (enumT 0 ks).length < sizeLine := by
      rw [enumT_len]
      exact szl (by omega)
    refine ⟨_, rfl, .inl ⟨rfl, _, SqL.of hF2⟩, ?_⟩
    refine ⟨_, rfl, Dd, rfl, .inr ⟨_, .inl hD2⟩, _, rfl, _, rfl, Dd, _, rfl, hD2, enumT 0 ks, keyT (kyC g pt cl i), U, hD2, rfl, hU, ksz, fun v hv => ?_, fun hv => ?_⟩
    · have hm : kyC g pt cl i ∈ ks := by
        by_cases c : kyC g pt cl i ∈ ks
        · exact c
        · rw [enumT_none 0 c] at hv
          cases hv
      rw [enumT_some 0 hm] at hv
      cases hv
      obtain ⟨KS', ef⟩ := kyS_old KS hm
      refine ⟨Fi, _, _, rfl, rfl, hF2, szl (by rw [List.length_map]; unfold fiL; rw [List.length_map, List.length_range]; omega), ?_⟩
      refine ⟨_, _, _, ks, rfl, ?_, by rw [upd_ne nDF]; exact hD2, ?_, KS', by omega⟩
      · exact fun b o e => by rw [upd_ne (ne_frz e nFH)]; exact sm2 _ _ e
      · rw [upd_same, ef, List.map_append, Nat.zero_add]
        rfl
    · have hm : kyC g pt cl i ∉ ks := fun hm => by rw [enumT_some 0 hm] at hv; cases hv
      obtain ⟨KS', ef⟩ := kyS_new KS hm
      have eP : putK (enumT 0 ks) (keyT (kyC g pt cl i)) (.int (((enumT 0 ks).length : Nat) : Int)) = enumT 0 (ks ++ [kyC g pt cl i]) := by
        rw [putK_new _ (enumT_none 0 hm), enumT_snoc, enumT_len, Nat.zero_add]
      rw [eP]
      have hF3 : (upd H2 Dd (.dT (enumT 0 (ks ++ [kyC g pt cl i])))) Fi = some (.lst ((fiL g pt cl ks i).map V.int)) := by rw [upd_ne (Ne.symm nDF)]; exact hF2
      refine ⟨Fi, _, _, rfl, rfl, hF3, szl (by rw [List.length_map]; unfold fiL; rw [List.length_map, List.length_range]; omega), ?_⟩
      refine ⟨_, _, _, ks ++ [kyC g pt cl i], rfl, ?_, by rw [upd_ne nDF, upd_same], ?_, KS', by rw [List.length_append]; show ks.length + 1 ≤ _; omega⟩
      · exact fun b o e => by rw [upd_ne (ne_frz e nFH), upd_ne (ne_frz e nD)]; exact sm2 _ _ e
      · rw [upd_same, ef, List.map_append, enumT_len]
        rfl
  · rintro σ H' ⟨y5, y6, y7, ks, rfl, sm, hD, hF, KS, kl⟩
    rw [List.length_map, lal] at hF KS
    exact ⟨_, rfl, q H' Fi _ sm nFH hF (cl_step fr C KS)⟩
theorem gives_least {CN : Addr} (h_next_of : Has P w K mg base (L2.CX P w) 4 "next_of" ["rule", "number"] (sp2 (pNextOf K CN))) (h_by_one_part_more : Has P w K mg base CX0 1 "by_one_part_more" ["classes", "leads_to", "part"] (sp3 (pMore K))) (h_how_many : Has P w K mg base CX0 1 "how_many" ["classes"] (sp1 (pHow K))) (z_range : mg "range" = none) :
    GivesL P w K mg base "least_parts" s_least_parts ["rule", "part", "is_settled", "leads_to", "classes", "many", "finer", "number"] "is_settled" 5 (TTLeast K) := by
  intro g cdg A outer s H f v1 v2 Q tl hr h_act h
  obtain ⟨r, t, p, m, pt, St, rfl, rfl, hr1, R, mM, p1, pM, oe, act, q⟩ := h
  refine ⟨_, (pss_cons (ps_setLc (i := 3) (own := [("number", 7)]) (by rfl) sc_least_parts.nd rfl rfl (sw_true rfl rfl rfl (by decide +kernel)) (pi_range1 (by rfl) z_range (pa_cons (pe_ix ix_tup (pv 0) pe_int (fun _ _ => rfl)) pa_nil)) (blkOk_by (own := [("number", 7)]) (N := ["rule", "part", "is_settled", "leads_to", "classes", "many", "finer", "number"]) (sc := defScope s_least_parts) (by decide +kernel)) (fun _ _ _ _ _ => pg_name (i := 7) sc_least_parts.nd rfl (Or.inl rfl)) (fun _ _ _ _ _ => pts_nil) (fun _ _ _ _ _ => (pe_own h_next_of (hr.mono (by decide)) passL (pa_cons (pv 0) (pa_cons (pv 7) pa_nil)))))
 (pss_cons (ps_setLc (i := 4) (own := [("number", 7)]) (by rfl) sc_least_parts.nd rfl rfl (sw_true rfl rfl rfl (by decide +kernel)) (pi_list (pv 3)) (blkOk_by (own := [("number", 7)]) (N := ["rule", "part", "is_settled", "leads_to", "classes", "many", "finer", "number"]) (sc := defScope s_least_parts) (by decide +kernel)) (fun _ _ _ _ _ => pg_name (i := 7) sc_least_parts.nd rfl (Or.inl rfl)) (fun _ _ _ _ _ => pts_nil) (fun _ _ _ _ _ => pe_int))
 (pss_cons (ps_set (i := 5) sc_least_parts.nd rfl (.inl rfl) pe_int)
 (pss_cons (ps_while PassesOwn.never (pt_not (pt_val (h_act _ _ _ _ (pv 4) rfl rfl))) (pss_cons (ps_set (i := 6) sc_least_parts.nd rfl (.inl rfl) (pe_own h_by_one_part_more (hr.mono (by decide)) pass0 (pa_cons (pv 4) (pa_cons (pv 3) (pa_cons (pv 1) pa_nil)))))
 (pss_cons (ps_if (pt_cmpR op_eq (pe_own h_how_many (hr.mono (by decide)) pass0 (pa_cons (pv 6) pa_nil)) (pe_own h_how_many (hr.mono (by decide)) pass0 (pa_cons (pv 4) pa_nil)) (nomark _)) (pss_one (ps_ret pe_non)) pss_nil)
 (pss_cons (ps_set (i := 4) sc_least_parts.nd rfl (.inl rfl) (pv 6))
 (pss_one (ps_aug (i := 5) sc_least_parts.nd rfl (.inl rfl) pe_int ip_add))))))
 (pss_one (ps_ret (pv 5))))))), ?_⟩
  have m1 := R.b1
  have m0 : 0 < m := by omega
  have fr := fun x => stp_rng (t := t) (p := p) m0 x
  refine ⟨_, rfl, r, _, 2, .int m, rfl, rfl, hr1, rfl, m, rfl, by omega, by omega, fun L nL => ?_⟩
  refine lc_range (lo := 0) (n := m.toNat) (fun j H' => H' = upd H L (.lst (((alls (j : Int)).map (stp t p m)).map V.int)) ∧ j ≤ m.toNat) ⟨rfl, Nat.zero_le _⟩ ?_ ?_
  · rintro j H' hj ⟨rfl, _⟩
    refine ⟨rfl, ?_⟩
    refine ⟨_, rfl, _, rfl, _, _, rfl, r, t, p, m, 0 + (j : Int), rfl, rfl, (same_new nL).tup hr1, R, fun _ _ => ?_, fun z => absurd ⟨by omega, by omega⟩ z⟩
    refine ⟨_, upd_same, szl (by rw [List.length_map, List.length_map, alls_len]; omega), ?_, by omega⟩
    have es : alls ((j + 1 : Nat) : Int) = alls (j : Int) ++ [(j : Int)] := allsN_succ j
    rw [upd_upd, es, List.map_append, List.map_append, Int.zero_add]
    rfl
  rintro H1 ⟨rfl, _⟩
  rw [show ((m.toNat : Nat) : Int) = m by omega]
  have s1 := same_new (o := .lst (((alls m).map (stp t p m)).map V.int)) nL
  have hL := upd_same (H := H) (a := L) (o := .lst (((alls m).map (stp t p m)).map V.int))
  generalize upd H L (.lst (((alls m).map (stp t p m)).map V.int)) = H1 at s1 hL ⊢
  refine ⟨_, rfl, L, rfl, ⟨_, SqL.of hL⟩, fun Z nZ => ?_⟩
  refine lc_list (K := K) (a := L) (xs := ((alls m).map (stp t p m)).map V.int) (fun j H' => H' = upd H1 Z (.lst ((List.replicate j (0 : Int)).map V.int)) ∧ j ≤ m.toNat) ⟨rfl, Nat.zero_le _⟩ ?_ ?_ ?_
  · rintro j H' _ ⟨rfl, _⟩
    exact SqL.of ((same_new nZ) _ _ hL)
  · rintro j x H' hj ⟨rfl, _⟩
    have jl := (List.getElem?_eq_some_iff.mp hj).1
    rw [List.length_map, List.length_map, alls_len] at jl
    refine ⟨rfl, ?_⟩
    refine ⟨_, upd_same, szl (by rw [List.length_map, List.length_replicate]; omega), ?_, by omega⟩
    rw [upd_upd, List.replicate_succ', List.map_append]
    rfl
  rintro H2 ⟨rfl, _⟩
  rw [show (((alls m).map (stp t p m)).map V.int).length = m.toNat by rw [List.length_map, List.length_map, alls_len]]
  have s2 := s1.trans (same_new (o := .lst ((List.replicate m.toNat (0 : Int)).map V.int)) nZ)
  have hL2 := (same_new (o := .lst ((List.replicate m.toNat (0 : Int)).map V.int)) nZ) _ _ hL
  have hZ := upd_same (H := H1) (a := Z) (o := .lst ((List.replicate m.toNat (0 : Int)).map V.int))
  generalize upd H1 Z (.lst ((List.replicate m.toNat (0 : Int)).map V.int)) = H2 at s2 hL2 hZ ⊢
  have C0 : Cl (stp t p m) pt m 0 (List.replicate m.toNat 0) := cl_zero
  have ne : ∀ {k cl}, Cl (stp t p m) pt m k cl → cl ≠ [] := fun {k cl} C z => by
    have := C.len
    rw [z] at this
    simp at this
    omega
  have bdM : ∀ {k cl M}, Cl (stp t p m) pt m k cl → Mx cl M → M < m := fun {k cl M} C hM => by
    have q1 := (cl_finer C hM (fun x => x) (N := m - 1) (fun x x0 x1 => ⟨x0, by show x ≤ m - 1; omega⟩) (fun x y _ _ _ _ e => by rw [e])).1
    omega
  obtain ⟨M0, hM0⟩ := mx_ex (ne C0)
  refine ⟨fun mu σ H' => ∃ (k : Nat) (c : Addr) (cl : List Int) (M : Int) (y6 : Option V), σ = [some (.ref r), some (.int pt), some (.ref f), some (.ref L), some (.ref c), some (.int (k : Int)), y6, none] ∧ Same H H' ∧ H' L = some (.lst (((alls m).map (stp t p m)).map V.int)) ∧ H' c = some (.lst (cl.map V.int)) ∧ Cl (stp t p m) pt m k cl ∧ Mx cl M ∧ (k : Int) ≤ M ∧ (∀ j, j < k → ¬ St j) ∧ mu = (m - M).toNat, ⟨_, 0, Z, _, M0, none, rfl, s2, hL2, hZ, C0, hM0, C0.pos _ hM0.1, fun j hj => absurd hj (Nat.not_lt_zero _), rfl⟩, ?_⟩
  rintro mu σ H3 ⟨k, c, cl, M, y6, rfl, s3, hL3, hc, C, hM, kM, no, rfl⟩
  have mM' := bdM C hM
  refine ⟨rfl, _, rfl, ?_⟩
  refine act c cl k H3 _ s3 hc C fun b hb => ?_
  by_cases yes : St k
  · have bt : b = true := hb.mpr yes
    subst bt
    refine ⟨_, rfl, ifF rfl ?_⟩
    exact ⟨_, rfl, q _ _ s3 (.inr ⟨k, rfl, yes, no⟩)⟩
  have bf : b = false := by
    cases b with
    | true => exact absurd (hb.mp rfl) yes
    | false => rfl
  subst bf
  refine ⟨_, rfl, ifT rfl ?_⟩
  refine ⟨fun σ' H' => ∃ mu', mu' < (m - M).toNat ∧ ∃ (k : Nat) (c : Addr) (cl : List Int) (M : Int) (y6 : Option V), σ' = [some (.ref r), some (.int pt), some (.ref f), some (.ref L), some (.ref c), some (.int (k : Int)), y6, none] ∧ Same H H' ∧ H' L = some (.lst (((alls m).map (stp t p m)).map V.int)) ∧ H' c = some (.lst (cl.map V.int)) ∧ Cl (stp t p m) pt m k cl ∧ Mx cl M ∧ (k : Int) ≤ M ∧ (∀ j, j < k → ¬ St j) ∧ mu' = (m - M).toNat, fun _ _ z => z, ?_⟩
  refine ⟨_, rfl, _, rfl, _, rfl, _, _, _, rfl, c, L, stp t p m, m, pt, k, cl, rfl, rfl, rfl, SqL.of hc, SqL.of hL3, fr, m0, mM, p1, pM, C, fun H4 c' fi s4 nc' hc' C' => ?_⟩
  have hc4 := s4 _ _ hc
  obtain ⟨M', hM'⟩ := mx_ex (ne C')
  have mM2 := bdM C' hM'
  have fin := cl_finer C hM (gI fi) (N := M') (fun x x0 x1 => ⟨C'.pos _ (gI_mem C'.len x0 x1), hM'.2 _ (gI_mem C'.len x0 x1)⟩) (fun x y x0 x1 y0 y1 e => (C.eq x y x0 x1 y0 y1).mpr (eqK_mono ((C'.eq x y x0 x1 y0 y1).mp e) (Nat.le_succ k)))
  refine ⟨_, rfl, _, rfl, c', fi, rfl, SqL.of hc', List.length_pos_iff.mpr (ne C'), fun M1 h1 => ?_⟩
  have e1 : M1 = M' := by
    have a := h1.2 _ hM'.1
    have b := hM'.2 _ h1.1
    omega
  subst e1
  refine ⟨_, rfl, _, rfl, c, cl, rfl, SqL.of hc4, List.length_pos_iff.mpr (ne C), fun M2 h2 => ?_⟩
  have e2 : M2 = M := by
    have a := h2.2 _ hM.1
    have b := hM.2 _ h2.1
    omega
  subst e2
  refine ⟨rfl, _, rfl, ifI (fun e => ?_) (fun e => ?_)⟩
  · have stab := eqK_stable (pt := pt) (m := m) (k := k) fr (fun x y x0 x1 y0 y1 h => (C'.eq x y x0 x1 y0 y1).mp (fin.2 (by omega) x y x0 x1 y0 y1 ((C.eq x y x0 x1 y0 y1).mpr h)))
    refine q _ _ (s3.trans s4) (.inl ⟨rfl, fun j => ?_⟩)
    by_cases cj : j < k
    · exact no j cj
    · refine fun z => yes ((oe j k fun x y x0 x1 y0 y1 => ⟨fun h => eqK_mono h (by omega), stab j (by omega) x y x0 x1 y0 y1⟩).mp z)
  · refine ⟨_, rfl, ?_⟩
    refine ⟨_, rfl, _, _, rfl, rfl, ?_⟩
    refine ⟨(m - M1).toNat, by omega, k + 1, c', fi, M1, _, rfl, s3.trans s4, s4 _ _ hL3, hc', C', hM', by omega, fun j hj => ?_, rfl⟩
    by_cases ej : j = k
    · rw [ej]; exact yes
    · exact no j (by omega)
end
end Tw


namespace Tw
open PySem PySem.Spec PyProof.Rows L2
abbrev s_settled_at : Stmt := topS 14
theorem sc_settled_at : FnScope ["rule", "start", "part"] ["rule", "start", "part"] (defScope s_settled_at) := ⟨rfl, rfl, rfl, by decide +kernel, rfl, by decide +kernel, by decide +kernel⟩
abbrev s_always_settled : Stmt := topS 15
theorem sc_always_settled : FnScope ["rule", "part"] ["rule", "part"] (defScope s_always_settled) := ⟨rfl, rfl, rfl, by decide +kernel, rfl, by decide +kernel, by decide +kernel⟩
section
variable {P : Program} {w : World} {K : PySem.W.Frag} {mg : Str → Option Value} {base : Heap}
theorem ok_settled_at {CN c Pt : Addr} {T : List (Addr × Str)} (D : TopC K mg "settled_at" s_settled_at ["rule", "start", "part"] c) (TB : LamX.TabB base mg c Pt) (hmT : (Pt, Str.ofString "settled_at.<locals>.<lambda>") ∈ T) (hu : ∀ p ∈ T, p.1 = Pt → p.2 = Str.ofString "settled_at.<locals>.<lambda>") (h_check_number : Has P w K mg base (L2.CX P w) 3 "check_number" ["number", "bound"] (sp2 (pCheck CN)))
    (D_least : Top K mg "least_parts" s_least_parts ["rule", "part", "is_settled"]) (hG : GivesL P w K mg base "least_parts" s_least_parts ["rule", "part", "is_settled", "leads_to", "classes", "many", "finer", "number"] "is_settled" 5 (TTLeast K)) :
    Has P w K mg base (L2.CX P w) 7 "settled_at" ["rule", "start", "part"] (sp3 (pSetAt K CN T)) := by
  refine D.ok3X sc_settled_at (fun f A outer s H v1 v2 v3 Q E hr h => ?_)
  obtain ⟨r, t, p, m, st, pt, rfl, rfl, rfl, hr1, R, mM, p1, pM, hT, q, bad⟩ := h
  refine ⟨_, (pss_cons (ps_expr (pe_own h_check_number (hr.mono (by decide)) (passes_call (takes_of rfl rfl rfl rfl) (fun _ _ _ _ z => z)) (pa_cons (pv 1) (pa_cons (pe_ix ix_tup (pv 0) pe_int (fun _ _ => rfl)) pa_nil)))) (pss_one (ps_ret (pe_lam3 (T := T) (k := 2) (j := 2) (Nl := ["classes", "start"]) (ps := ["classes"]) (fr := ["start"]) (js := [1]) (te := teOne K) D_least (by rfl) sc_least_parts hG hr (pv 0) (pv 2) TB rfl hmT hu (NdefX.nscope_by (by decide +kernel)) rfl (NdefX.ndef_free (sc := defScope s_settled_at) (fr := ["start"]) (by decide +kernel)) (NdefX.ndef_fr (sc := defScope s_settled_at) (by decide +kernel)) rfl rfl (fun _ _ _ _ _ _ => rfl)
    (fun _ _ _ _ _ _ _ => by
      refine ⟨fun pins s σ H Q I h => ?_⟩
      obtain ⟨l, cl, z, rfl, hl, z0, z1, q⟩ := h
      refine (pe_cmpR op_eq (pe_bm PySem.F.plainAttrs_list PySem.F.slot_list_count PySem.F.type_list_count mt_lcount (pv 0) (pa_cons (pe_ix ix_list (pv 0) (pv 1) (fun _ _ => rfl)) pa_nil)) pe_int (nomark _)).run pins s _ H Q I ?_
      refine ⟨_, rfl, .inl ⟨rfl, _, hl⟩, _, rfl, _, rfl, l, _, _, _, rfl, rfl, hl, atI_z z0 z1, l, cl, _, rfl, rfl, hl, ?_⟩
      have e : decide (V.int ((cl.count (gI cl z) : Nat) : Int) = V.int 1) = decide (cl.count (gI cl z) = 1) := decide_eq_decide.mpr ⟨fun h => by have := V.int.inj h; omega, fun h => by rw [h]; rfl⟩
      rw [← e] at q
      exact ⟨rfl, q⟩) rfl (.inl rfl))))), ?_⟩
  refine ⟨_, rfl, _, rfl, r, _, 2, .int m, rfl, rfl, hr1, rfl, _, _, rfl, st, m, rfl, rfl, fun s0 s1 => ?_, bad⟩
  refine ⟨_, rfl, _, rfl, hT, fun c' H3 eN T3 hco => ?_⟩
  refine ⟨r, t, p, m, pt, Alone (stp t p m) pt m st, rfl, rfl, extN_sqT eN hr1, R, mM, p1, pM, alone_on s0 s1, fun l cl k H4 Q4 s4 hl C qb => ⟨s4 _ _ hco, l, cl, st, rfl, SqL.of hl, s0, by have := C.len; omega, ?_⟩, fun H4 v s4 hv => q s0 s1 H4 v (extN_same eN s4) (T3.ext s4) hv⟩
  exact qb _ (decide_eq_true_iff.trans (cl_one C s0 s1))
theorem ok_always_settled {c Pt : Addr} {T : List (Addr × Str)} (D : TopC K mg "always_settled" s_always_settled ["rule", "part"] c) (TB : LamX.TabB base mg c Pt) (hmT : (Pt, Str.ofString "always_settled.<locals>.<lambda>") ∈ T) (hu : ∀ p ∈ T, p.1 = Pt → p.2 = Str.ofString "always_settled.<locals>.<lambda>")
    (D_least : Top K mg "least_parts" s_least_parts ["rule", "part", "is_settled"]) (hG : GivesL P w K mg base "least_parts" s_least_parts ["rule", "part", "is_settled", "leads_to", "classes", "many", "finer", "number"] "is_settled" 5 (TTLeast K)) (h_how_many : Has P w K mg base CX0 1 "how_many" ["classes"] (sp1 (pHow K))) (z_len : mg "len" = none) :
    Has P w K mg base CX0 7 "always_settled" ["rule", "part"] (sp2 (pAlways K T)) := by
  refine D.ok2 sc_always_settled (fun f A outer s H v1 v2 Q E hr h => ?_)
  obtain ⟨r, t, p, m, pt, rfl, rfl, hr1, R, mM, p1, pM, hT, q⟩ := h
  have m0 : 0 < m := by have := R.b1; omega
  refine ⟨_, (pss_one (ps_ret (pe_lam3 (T := T) (k := 2) (j := 2) (Nl := ["classes"]) (ps := ["classes"]) (fr := []) (js := []) (te := teAll K) D_least (by rfl) sc_least_parts hG hr (pv 0) (pv 1) TB rfl hmT hu (NdefX.nscope_by (by decide +kernel)) rfl (NdefX.ndef_free (sc := defScope s_always_settled) (fr := []) (by decide +kernel)) (NdefX.ndef_fr (sc := defScope s_always_settled) (by decide +kernel)) rfl rfl (fun _ _ _ _ _ _ => rfl)
    (fun _ _ _ _ _ _ hr2 => by
      refine ⟨fun pins s σ H Q I h => ?_⟩
      obtain ⟨l, cl, rfl, hl, l0, q⟩ := h
      refine (pe_cmpR op_eq (pe_own h_how_many (hr2.mono (by decide)) pass0 (pa_cons (pv 0) pa_nil)) (pe_callB (id := "len") call_len_seq (by rfl) z_len (by decide +kernel) (pa_cons (pv 0) pa_nil)) (nomark _)).run pins s _ H Q I ?_
      refine ⟨_, rfl, _, rfl, l, cl, rfl, hl, l0, fun M hM => ?_⟩
      refine ⟨_, rfl, l, _, rfl, .inl hl, ?_⟩
      have e : decide (V.int (M + 1) = V.int (((cl.map V.int).length : Nat) : Int)) = decide (M + 1 = (cl.length : Int)) := decide_eq_decide.mpr ⟨fun h => by have := V.int.inj h; rw [List.length_map] at this; exact this, fun h => by rw [h, List.length_map]⟩
      have q' := q M hM
      rw [← e] at q'
      exact ⟨rfl, q'⟩) rfl (.inl rfl)))), ?_⟩
  refine ⟨_, rfl, _, rfl, hT, fun c' H3 eN T3 hco => ?_⟩
  refine ⟨r, t, p, m, pt, Apar (stp t p m) pt m, rfl, rfl, extN_sqT eN hr1, R, mM, p1, pM, apar_on, fun l cl k H4 Q4 s4 hl C qb => ⟨s4 _ _ hco, l, cl, rfl, SqL.of hl, by have := C.len; omega, fun M hM => ?_⟩, fun H4 v s4 hv => q H4 v (extN_same eN s4) (T3.ext s4) hv⟩
  refine qb _ (decide_eq_true_iff.trans ?_)
  rw [C.len, show ((m.toNat : Nat) : Int) = m by omega]
  exact cl_all m0 C hM
end
end Tw


namespace Tw
open PySem PySem.Spec PyProof.Rows L2
abbrev s_lis_number : Stmt := topS 27
theorem sc_lis_number : FnScope ["caught", "number"] ["caught", "number"] (defScope s_lis_number) := ⟨rfl, rfl, rfl, by decide +kernel, rfl, by decide +kernel, by decide +kernel⟩
section
variable {P : Program} {w : World} {K : PySem.W.Frag} {mg : Str → Option Value} {base : Heap}
theorem ok_lis_number {CR CA CB CF CN CU : Addr} (D : Top K mg "_law_is_number" s_lis_number ["caught", "number"]) (h_same : Has P w K mg base CX0 2 "_law_same" ["found", "due"] (sp2 pSame1)) (T : Err K mg CR CA CB CF CN CU) (Y : Kit K CN CR CA CB CF CN CU false false false true false) (nf : PySem.W.findIn K (.ref CN) "number" = some none)
    (z_isinstance : mg "isinstance" = none) (z_ValueError : mg "ValueError" = none) : Has P w K mg base CX0 3 "_law_is_number" ["caught", "number"] (sp2 (pIsNumB CN)) := by
  refine D.ok2 sc_lis_number (fun f cdv A outer s H v1 v2 Q E hr h => ?_)
  obtain ⟨x, dd, n, rfl, rfl, hx, hd, q⟩ := h
  have g_NoAsk := T.gA
  have g_NoBack := T.gB
  have g_NoFit := T.gF
  have g_NoNumber := T.gN
  have g_NoRule := T.gU
  refine ⟨_, (pss_cons (ps_if (PW.pt (pw_or (pt_val (pe_callB (id := "isinstance") call_isXT (by rfl) z_isinstance (by decide +kernel) (pa_cons (pv 0) (pa_cons (pe_tup (pa_cons (pe_glob (v := .ref _) (by rfl) g_NoAsk rfl) (pa_cons (pe_glob (v := .ref _) (by rfl) g_NoBack rfl) (pa_cons (pe_glob (v := .ref _) (by rfl) g_NoFit rfl) (pa_cons (pe_glob (v := .ref _) (by rfl) g_NoRule rfl) pa_nil))))) pa_nil)))) (pw_or1 (pt_not (pt_val (pe_callB (id := "isinstance") call_isA (by rfl) z_isinstance (by decide +kernel) (pa_cons (pv 0) (pa_cons (pe_bltn (v := .ty "ValueError") (by rfl) z_ValueError (by decide +kernel) rfl) pa_nil)))))))) (pss_one (ps_ret pe_bl)) pss_nil)
 (pss_one (ps_ret (pe_and (pe_callB (id := "isinstance") call_isA (by rfl) z_isinstance (by decide +kernel) (pa_cons (pv 0) (pa_cons (pe_glob (v := .ref _) (by rfl) g_NoNumber rfl) pa_nil))) (pe_one (pe_own h_same (hr.mono (by decide)) pass0 (pa_cons (pe_xv (pv 0)) (pa_cons (pv 1) pa_nil)))))))), ?_⟩
  refine ⟨_, rfl, by show 4 ≤ sizeLine; decide, fun tp ntp => ?_⟩
  have s1 := same_new (o := .tup [.ref CA, .ref CB, .ref CF, .ref CU]) ntp
  have hasd : HasD (upd H tp (.tup [.ref CA, .ref CB, .ref CF, .ref CU])) (some dd) := fun dx z => by cases z; exact ⟨_, s1 _ _ hd⟩
  refine ⟨x, CN, some dd, tp, _, _, false, rfl, upd_same, .cons (.own _) (.cons (.own _) (.cons (.own _) (.cons (.own _) .nil))), s1 _ _ hx, hasd, Y.xc, kitAny4 Y.a Y.b Y.f Y.u, _, rfl, ifF rfl ?_⟩
  refine ⟨_, rfl, .inl ⟨x, CN, some dd, _, _, true, rfl, .ty _, s1 _ _ hx, hasd, Y.xc, Y.v, _, rfl, ifF rfl ?_⟩⟩
  refine ⟨_, rfl, .inl ⟨x, CN, some dd, _, _, true, rfl, .own _, s1 _ _ hx, hasd, Y.xc, Y.n, _, rfl, ifT rfl ?_⟩⟩
  refine ⟨_, rfl, x, CN, dd, _, .int n, rfl, s1 _ _ hx, Y.xc, nf, s1 _ _ hd, rfl, _, rfl, _, _, rfl, .inl ⟨_, _, rfl, rfl, ?_⟩⟩
  rw [decide_eq_true rfl]
  exact q _ s1
end
end Tw


namespace Tw
open PySem PySem.Spec PyProof.Rows L2
abbrev s_none : Stmt := topS 28
theorem sc_none : FnScope ["deck", "bound", "far"] ["deck", "bound"] (defScope s_none) := ⟨rfl, rfl, rfl, by decide +kernel, rfl, by decide +kernel, by decide +kernel⟩
section
variable {P : Program} {w : World} {K : PySem.W.Frag} {mg : Str → Option Value} {base : Heap}
theorem ok_none (D : Top K mg "_law_none" s_none ["deck", "bound"]) (h_draw : Has P w K mg base CX0 1 "_law_draw" ["deck", "most"] (sp2 (pDrB 1))) : Has P w K mg base CX0 2 "_law_none" ["deck", "bound"] (sp2 pNone) := by
  refine D.ok2 sc_none (fun f cdv A outer s H v1 v2 Q E hr h => ?_)
  obtain ⟨d, n, m, rfl, rfl, m0, m1, hD, hn, q⟩ := h
  refine ⟨_, (pss_cons (ps_set (i := 2) sc_none.nd rfl (.inl rfl) (pe_own h_draw (hr.mono (by decide)) pass0 (pa_cons (pv 0) (pa_cons (pe_ix ix_list (pe_lst (pa_cons pe_int (pa_cons (pe_op op_pow pe_int pe_int) pa_nil))) (pe_own h_draw (hr.mono (by decide)) pass0 (pa_cons (pv 0) (pa_cons pe_int pa_nil))) (fun _ _ => rfl)) pa_nil))))
 (pss_one (ps_ret (pe_ix ix_list (pe_lst (pa_cons (pe_op op_add (pv 1) (pv 2)) (pa_cons (pe_op op_sub (pe_un un_neg pe_int) (pv 2)) (pa_cons (pv 1) (pa_cons (pe_op op_sub pe_int (pv 1)) (pa_cons (pe_un un_neg pe_int) pa_nil)))))) (pe_own h_draw (hr.mono (by decide)) pass0 (pa_cons (pv 0) (pa_cons pe_int pa_nil))) (fun _ _ => rfl))))), ?_⟩
  have z6 : (10 : Int) ^ (6 : Int).toNat = 1000000 := by decide
  refine ⟨_, rfl, _, _, rfl, rfl, ⟨by decide, by decide, by decide⟩, by show 2 ≤ sizeLine; decide, fun l1 nl1 => ?_⟩
  have s1 := same_new (o := .lst [.int 3, .int (10 ^ (6 : Int).toNat)]) nl1
  refine ⟨_, rfl, _, _, rfl, d, n, 2, rfl, rfl, by decide, by decide, hD.same s1, by omega, fun H1 u B1 D1 u0 u1 => ?_⟩
  obtain ⟨x, hx, ex⟩ := at_ints (ns := [3, 10 ^ (6 : Int).toNat]) u0 (by show u < 2; exact u1)
  have bx : 3 ≤ x ∧ x ≤ 1000000 := by
    rw [z6] at hx
    simp at hx
    omega
  refine ⟨l1, _, u, _, rfl, rfl, SqL.of (B1 _ _ (hD.ne nl1) upd_same), ex, _, _, rfl, d, n + 1, x, rfl, rfl, by omega, by omega, D1, by omega, fun H2 far B2 D2 f0 f1 => ?_⟩
  refine ⟨_, rfl, _, rfl, _, _, rfl, rfl, ?_⟩
  refine ⟨_, rfl, _, rfl, _, _, rfl, rfl, _, rfl, _, rfl, _, _, rfl, rfl, _, rfl, by show 5 ≤ sizeLine; decide, fun l2 nl2 => ?_⟩
  have s2 := same_new (o := .lst [.int (m + far), .int (-1 - far), .int m, .int (0 - m), .int (-1)]) nl2
  refine ⟨_, rfl, _, _, rfl, d, n + 2, 5, rfl, rfl, by decide, by decide, D2.same s2, by omega, fun H3 v B3 D3 v0 v1 => ?_⟩
  obtain ⟨y, hy, ey⟩ := at_ints (ns := [m + far, -1 - far, m, 0 - m, -1]) v0 (by show v < 5; exact v1)
  have by' : y < 0 ∨ m ≤ y := by
    simp at hy
    omega
  refine ⟨l2, _, v, _, rfl, rfl, SqL.of (B3 _ _ (D2.ne nl2) upd_same), ey, ?_⟩
  exact q _ y ((((s1.but.trans B1).trans B2).trans s2.but).trans B3) D3 by'
end
end Tw


namespace Tw
open PySem PySem.Spec PyProof.Rows L2
abbrev s_marks : Stmt := topS 29
theorem sc_marks : FnScope ["rule", "part", "numbers", "marks", "found", "count", "known", "more", "mark", "number", "key"] ["rule", "part"] (defScope s_marks) := ⟨rfl, rfl, rfl, by decide +kernel, rfl, by decide +kernel, by decide +kernel⟩
def MkV (f : Int → Int) (pt m : Int) (H H' : Hp) (v : V) : Prop := (v = .non ∧ pt < m) ∨ ∃ (F : Addr) (ps : List Addr) (rs : List (List Int)), v = .ref F ∧ H F = none ∧ (∀ a ∈ ps, H a = none) ∧ H' F = some (.lst (ps.map V.ref)) ∧ RowsL H' ps rs ∧ Mks f pt m rs ∧ (rs.length : Int) ≤ m
def pMarks (K : PySem.W.Frag) : V → V → Hp → VK → XK → Prop := fun a b H Q _ => ∃ (r : Addr) (t p m pt : Int), a = .ref r ∧ b = .int pt ∧ SqT K H r [.int t, .int p, .int m] ∧ Rule t p m ∧ m ≤ 2000 ∧ 1 ≤ pt ∧ pt ≤ 1000000000000 ∧ ∀ H' v, Same H H' → MkV (stp t p m) pt m H H' v → Q v H'
def InvM (H : Hp) (r : Addr) (pt : Int) (F : Addr) (t p m : Int) : Nat → L2.St → Hp → Prop := fun mu σ H' => ∃ (j : Nat) (Nu Mk : Addr) (ps : List Addr) (rs : List (List Int)) (mk : List Int) (cnt : Int) (y6 y7 y8 y9 y10 : Option V), σ = [some (.ref r), some (.int pt), some (.ref Nu), some (.ref Mk), some (.ref F), some (.int cnt), y6, y7, y8, y9, y10] ∧ Same H H' ∧ Nu ≠ F ∧ Mk ≠ F ∧ (∀ a ∈ ps, a ≠ F) ∧ (∀ a ∈ ps, H a = none) ∧ H Mk = none ∧
      H' Nu = some (.lst (((alls m).map (itr (stp t p m) j)).map V.int)) ∧ H' Mk = some (.lst (mk.map V.int)) ∧ H' F = some (.lst (ps.map V.ref)) ∧ RowsL H' ps rs ∧ rs.length = j ∧ (∀ i z, rs[i]? = some z → Cl (stp t p m) pt m i z) ∧ Cl (stp t p m) pt m j mk ∧ (j = 0 → cnt = 0) ∧
      (∀ i z M, j = i + 1 → rs[i]? = some z → Mx z M → cnt = M + 1 ∧ (i : Int) ≤ M) ∧ (m ≤ pt → j ≤ 1) ∧ j ≤ 400001 ∧ mu = 400001 - j
theorem RowsL.off {H H' : Hp} {F : Addr} (k : ∀ b o, b ≠ F → H b = some o → H' b = some o) : ∀ {ps : List Addr} {rs : List (List Int)}, (∀ a ∈ ps, a ≠ F) → RowsL H ps rs → RowsL H' ps rs
  | [], [], _, _ => True.intro
  | a :: ps, _ :: _, n, h => ⟨k _ _ (n a (.head _)) h.1, RowsL.off k (fun b hb => n b (.tail _ hb)) h.2⟩
section
variable {P : Program} {w : World} {K : PySem.W.Frag} {mg : Str → Option Value} {base : Heap}
theorem ok_marks (D : Top K mg "_law_marks" s_marks ["rule", "part"]) (z_list : mg "list" = none) (z_range : mg "range" = none) (z_len : mg "len" = none) (z_set : mg "set" = none) (z_zip : mg "zip" = none) : Has P w K mg base CX0 1 "_law_marks" ["rule", "part"] (sp2 (pMarks K)) := by
  refine D.ok2 sc_marks (fun f cdv A outer s H v1 v2 Q E hr h => ?_)
  obtain ⟨r, t, p, m, pt, rfl, rfl, h1, R, mM, p0, p1, q0⟩ := h
  have q : ∀ H' F ps rs, Same H H' → H F = none → (∀ a ∈ ps, H a = none) → H' F = some (.lst (ps.map V.ref)) → RowsL H' ps rs → Mks (stp t p m) pt m rs → (rs.length : Int) ≤ m → Q (.ref F) H' := fun H' F ps rs a x y b c d e => q0 H' _ a (.inr ⟨F, ps, rs, rfl, x, y, b, c, d, e⟩)
  have qN : pt < m → ∀ H', Same H H' → Q .non H' := fun l H' a => q0 H' _ a (.inl ⟨rfl, l⟩)
  refine ⟨_, (pss_cons (ps_set (i := 2) sc_marks.nd rfl (.inl rfl) (pe_listRg rfl (by rfl) z_list (prg_1 (by rfl) z_range (pe_ix ix_tup (pv 0) pe_int (fun _ _ => rfl)))))
 (pss_cons (ps_set (i := 3) sc_marks.nd rfl (.inl rfl) (pe_op op_rep (pe_lst (pa_cons pe_int pa_nil)) (pe_ix ix_tup (pv 0) pe_int (fun _ _ => rfl))))
 (pss_cons (ps_set (i := 4) sc_marks.nd rfl (.inl rfl) (pe_lst pa_nil))
 (pss_cons (ps_set (i := 5) sc_marks.nd rfl (.inl rfl) pe_int)
 (pss_cons (ps_while PassesOwn.never (PW.pt (pw_or (pt_cmpR (op_eqD hr.units) (pv 4) (pe_lst pa_nil) (nomark _)) (pw_or1 (pt_cmpR op_gt (pe_callB (id := "len") cr_lenSet (by rfl) z_len (by decide +kernel) (pa_cons (pe_callTy (cr_setI rfl) (by rfl) z_set (by decide +kernel) (pa_cons (pv 3) pa_nil)) pa_nil)) (pv 5) (nomark _))))) (pss_cons (ps_if (pt_cmpR op_gt (pe_op op_mulB (pe_callB (id := "len") call_len_seq (by rfl) z_len (by decide +kernel) (pa_cons (pv 4) pa_nil)) (pe_ix ix_tup (pv 0) pe_int (fun _ _ => rfl))) pe_int (nomark _)) (pss_one (ps_ret pe_non)) pss_nil)
 (pss_cons (ps_expr (pe_bm PySem.F.plainAttrs_list PySem.F.slot_list_append PySem.F.type_list_append mt_append (pv 4) (pa_cons (pv 3) pa_nil)))
 (pss_cons (ps_set (i := 5) sc_marks.nd rfl (.inl rfl) (pe_callB (id := "len") cr_lenSet (by rfl) z_len (by decide +kernel) (pa_cons (pe_callTy (cr_setI rfl) (by rfl) z_set (by decide +kernel) (pa_cons (pv 3) pa_nil)) pa_nil)))
 (pss_cons (ps_set (i := 6) sc_marks.nd rfl (.inl rfl) pe_dnewT)
 (pss_cons (ps_set (i := 7) sc_marks.nd rfl (.inl rfl) (pe_lst pa_nil))
 (pss_cons (ps_for PassesOwn.never rfl (pi_x2 (by rfl) z_zip (pa_cons (pv 3) (pa_cons (pv 2) pa_nil))) (pg_tup rfl (pgs_cons (pg_name (i := 8) sc_marks.nd rfl (.inl rfl)) (pgs_cons (pg_name (i := 9) sc_marks.nd rfl (.inl rfl)) pgs_nil))) (pss_cons (ps_set (i := 10) sc_marks.nd rfl (.inl rfl) (pe_tup (pa_cons (pv 8) (pa_cons (pe_op op_fdivB (pv 9) (pv 1)) pa_nil))))
 (pss_cons (ps_dput (hu_of hr) (pv 6) (pv 10) (pe_dget2 (hu_of hr) (pv 6) (pv 10) (pe_callB (id := "len") call_len_dT (by rfl) z_len (by decide +kernel) (pa_cons (pv 6) pa_nil)) ⟨rfl, rfl, rfl, rfl⟩) rfl)
 (pss_one (ps_expr (pe_bm PySem.F.plainAttrs_list PySem.F.slot_list_append PySem.F.type_list_append mt_append (pv 7) (pa_cons (pe_dget (hu_of hr) (pv 6) (pv 10) (fun _ _ => rfl)) pa_nil)))))))
 (pss_cons (ps_set (i := 3) sc_marks.nd rfl (.inl rfl) (pv 7))
 (pss_one (ps_setLc (i := 2) (own := [("number", 9)]) (by rfl) sc_marks.nd rfl rfl (sw_true rfl rfl rfl (by decide +kernel)) (pi_list (pv 2)) (blkOk_by (own := [("number", 9)]) (N := ["rule", "part", "numbers", "marks", "found", "count", "known", "more", "mark", "number", "key"]) (sc := defScope s_marks) (by decide +kernel)) (fun _ _ _ _ _ => pg_name (i := 9) sc_marks.nd rfl (Or.inl rfl)) (fun _ _ _ _ _ => pts_nil) (fun _ _ _ _ _ => (pe_op op_mod (pe_op op_add (pe_op op_mulB (pe_ix (ix_tup : IxR _ (rIxT K)) (pv 0) pe_int (fun _ _ => rfl)) (pv 9)) (pe_ix (ix_tup : IxR _ (rIxT K)) (pv 0) pe_int (fun _ _ => rfl))) (pe_ix (ix_tup : IxR _ (rIxT K)) (pv 0) pe_int (fun _ _ => rfl))))))))))))))
 (pss_one (ps_ret (pv 4)))))))), ?_⟩
  have m0 := R.pos
  have m2 := R.b2
  refine ⟨_, rfl, r, _, 2, .int m, rfl, rfl, h1, rfl, m, rfl, RgOk.of_le (by decide) (by omega) (by decide) (by omega), fun Nu nNu => ?_⟩
  rw [rg_alls]
  have s1 := same_new (o := .lst ((alls m).map V.int)) nNu
  refine ⟨by show 1 ≤ sizeLine; decide, fun l0 nl0 => ⟨_, rfl, r, _, 2, .int m, rfl, rfl, (s1.trans (same_new nl0)).tup h1, rfl, l0, m, _, rfl, rfl, upd_same, by omega, by omega, sz (by show 1 * m.toNat ≤ 100000; omega), fun Mk nMk => ⟨by show 0 ≤ sizeLine; decide, fun F nF => ?_⟩⟩⟩
  have e0 : (List.replicate m.toNat [V.int 0]).flatten = (List.replicate m.toNat (0 : Int)).map V.int := by
    rw [List.map_replicate]
    generalize m.toNat = n
    induction n with
    | zero => rfl
    | succ n ih => rw [List.replicate_succ, List.replicate_succ, List.flatten_cons, ih]; rfl
  rw [e0]
  have s2 := same_new (o := .lst [.int 0]) nl0
  have s3 := same_new (o := .lst ((List.replicate m.toNat (0 : Int)).map V.int)) nMk
  rw [e0] at nF
  have s4 := same_new (o := .lst []) nF
  have nMkH : H Mk = none := (s1.trans s2).free nMk
  have S4 := s1.trans (s2.trans (s3.trans s4))
  have hNu := s4 _ _ (s3 _ _ (s2 _ _ (upd_same (H := H) (a := Nu) (o := .lst ((alls m).map V.int)))))
  have hMk := s4 _ _ (upd_same (H := upd (upd H Nu (.lst ((alls m).map V.int))) l0 (.lst [.int 0])) (a := Mk) (o := .lst ((List.replicate m.toNat (0 : Int)).map V.int)))
  have hF := upd_same (H := upd (upd (upd H Nu (.lst ((alls m).map V.int))) l0 (.lst [.int 0])) Mk (.lst ((List.replicate m.toNat (0 : Int)).map V.int))) (a := F) (o := .lst [])
  have nFH : H F = none := (s1.trans (s2.trans s3)).free nF
  have nNF : Nu ≠ F := fun z => by rw [← z] at nF; rw [s3 _ _ (s2 _ _ (upd_same (H := H) (a := Nu) (o := .lst ((alls m).map V.int))))] at nF; cases nF
  have nMF : Mk ≠ F := fun z => by rw [← z, upd_same] at nF; cases nF
  generalize upd (upd (upd (upd H Nu (.lst ((alls m).map V.int))) l0 (.lst [.int 0])) Mk (.lst ((List.replicate m.toNat (0 : Int)).map V.int))) F (.lst []) = H1 at S4 hNu hMk hF ⊢
  have C0 : Cl (stp t p m) pt m 0 (List.replicate m.toNat 0) := cl_zero
  have fr := fun x => stp_rng (t := t) (p := p) m0 x
  refine ⟨InvM H r pt F t p m,
    ⟨_, 0, Nu, Mk, [], [], _, 0, _, _, _, _, _, rfl, S4, nNF, nMF, fun a h => (by cases h), fun a h => (by cases h), nMkH, hNu.trans (by rw [show (itr (stp t p m) 0) = id from rfl, List.map_id]), hMk, hF, True.intro, rfl, fun i z e => (by simp at e), C0, fun _ => rfl, fun i z M e => (by omega), fun _ => by omega, by omega, rfl⟩, ?_⟩
  rintro mu σ H2 ⟨j, Nu, Mk, ps, rs, mk, cnt, y6, y7, y8, y9, y10, rfl, S2, nNF, nMF, nps, fps, nMkH, hNu, hMk, hF, rw_, lr, clr, C, c0, cM, jm, jl, rfl⟩
  have mkne : mk ≠ [] := fun z => by
    have := C.len
    rw [z] at this
    simp at this
    omega
  obtain ⟨N, hN⟩ := mx_ex mkne
  refine (?_ : ∀ R' : Bool → Hp → Prop, (∀ H3, Same H2 H3 → (j = 0 ∨ cnt < N + 1) → R' true H3) → (∀ H3, Same H2 H3 → j ≠ 0 → ¬ cnt < N + 1 → R' false H3) → tOr _ _ _ H2 R') _ ?_ ?_
  · intro R' go ex
    refine ⟨_, rfl, by show 0 ≤ sizeLine; decide, fun E0 nE0 => ?_⟩
    have sE := same_new (o := .lst []) nE0
    refine ⟨dLL rs, .list [], .lst (SqL.of (sE _ _ hF)) (dp_rowsL (rw_.same sE)), .lst (SqL.of upd_same) .nil, shp_LL rs, rfl, _, rfl, ?_⟩
    rw [eqv_LL_nil]
    by_cases hj : j = 0
    · rw [decide_eq_true (by rw [hj] at lr; exact List.length_eq_zero_iff.mp lr)]
      exact go _ sE (.inl hj)
    · rw [decide_eq_false (fun z => hj (by rw [← lr, z]; rfl))]
      refine ⟨_, rfl, Mk, mk, rfl, SqL.of (sE _ _ hMk), by have := C.len; omega, fun st c nst => ?_⟩
      have sS := same_new (o := SetO w st (fun i => decide (i ∈ mk)) c) nst
      refine ⟨st, _, c, rfl, upd_same, fun ks knd kmem => ?_⟩
      have kl := dist_len C hN knd kmem
      refine ⟨_, rfl, _, _, rfl, rfl, _, rfl, ?_⟩
      by_cases g : cnt < N + 1
      · rw [decide_eq_true (by omega)]
        exact go _ (sE.trans sS) (.inr g)
      · rw [decide_eq_false (by omega)]
        exact ex _ (sE.trans sS) hj g
  · intro H3 s3 go
    refine ifT rfl ?_
    have S3 := S2.trans s3
    have hF3 := s3 _ _ hF
    have jN : (j : Int) ≤ N := by
      have N0 := C.pos N hN.1
      by_cases hj : j = 0
      · omega
      rcases go with h | h
      · omega
      obtain ⟨i, rfl⟩ : ∃ i, j = i + 1 := ⟨j - 1, by omega⟩
      obtain ⟨z, hz⟩ : ∃ z, rs[i]? = some z := ⟨rs[i], List.getElem?_eq_getElem (by omega)⟩
      have zn : z ≠ [] := fun e => by
        have := (clr i z hz).len
        rw [e] at this
        simp at this
        omega
      obtain ⟨M, hM⟩ := mx_ex zn
      have := cM i z M rfl hz hM
      omega
    have ge : m ≤ pt → j = 0 := fun le => by
      by_cases hj : j = 0
      · exact hj
      have j1 : j = 1 := by have := jm le; omega
      exfalso
      rcases go with h | h
      · exact hj h
      subst j1
      obtain ⟨z, hz⟩ : ∃ z, rs[0]? = some z := ⟨rs[0], List.getElem?_eq_getElem (by omega)⟩
      have Cz := clr 0 z hz
      have zn : z ≠ [] := fun e => by
        have := Cz.len
        rw [e] at this
        simp at this
        omega
      obtain ⟨M, hM⟩ := mx_ex zn
      have e1 := (cM 0 z M rfl hz hM).1
      have M0 := Cz.pos M hM.1
      have N0 := mx_zero C hN fun x y x0 x1 y0 y1 i hi => by
        have e : i = 0 := by omega
        subst e
        show x / pt = y / pt
        rw [Int.ediv_eq_zero_of_lt x0 (by omega), Int.ediv_eq_zero_of_lt y0 (by omega)]
      omega
    refine ⟨fun σ' H' => ∃ mu', mu' < 400001 - j ∧ InvM H r pt F t p m mu' σ' H', fun _ _ z => z, ?_⟩
    refine ⟨_, rfl, F, _, rfl, .inl (SqL.of hF3), _, rfl, r, _, 2, .int m, rfl, rfl, S3.tup h1, rfl, _, _, rfl, rfl, ⟨by unfold Big; rw [List.length_map, rw_.len, lr]; omega, by unfold Big; omega⟩, _, _, rfl, rfl, _, rfl, ifD (fun gt => ?_) (fun le => ?_)⟩
    · rw [List.length_map, rw_.len, lr] at gt
      have lt : pt < m := by
        by_cases c : m ≤ pt
        · rw [ge c] at gt
          omega
        · omega
      exact qN lt _ S3
    rw [List.length_map, rw_.len, lr] at le
    have jb : j ≤ 400000 := by
      by_cases c : j ≤ 400000
      · exact c
      · exfalso
        apply le
        have : (400001 : Int) * 1 ≤ (j : Int) * m := Int.mul_le_mul (by omega) (by omega) (by decide) (by omega)
        omega
    have hMk3 := s3 _ _ hMk
    have hNu3 := s3 _ _ hNu
    refine ⟨_, rfl, .inl ⟨rfl, _, SqL.of hF3⟩, _, rfl, F, _, _, rfl, rfl, hF3, szM (by rw [List.length_map, rw_.len, lr]; omega), ?_⟩
    have S4 : Same H (upd H3 F (.lst (ps.map V.ref ++ [.ref Mk]))) := fun b o e => by rw [upd_ne (ne_frz e nFH)]; exact S3 _ _ e
    have off4 : ∀ b o, b ≠ F → H3 b = some o → (upd H3 F (.lst (ps.map V.ref ++ [.ref Mk]))) b = some o := fun b o n e => by rw [upd_ne n]; exact e
    have hF4 : (upd H3 F (.lst (ps.map V.ref ++ [.ref Mk]))) F = some (.lst ((ps ++ [Mk]).map V.ref)) := by rw [upd_same, List.map_append]; rfl
    have hMk4 := off4 _ _ nMF hMk3
    have hNu4 := off4 _ _ nNF hNu3
    have rw4 := ((rw_.same s3).off off4 nps).snoc hMk4
    have fresh4 : ∀ a, (upd H3 F (.lst (ps.map V.ref ++ [.ref Mk]))) a = none → a ≠ F ∧ H a = none := fun a e => by
      have n : a ≠ F := fun z => by rw [z, upd_same] at e; cases e
      exact ⟨n, S4.free e⟩
    generalize upd H3 F (.lst (ps.map V.ref ++ [.ref Mk])) = H4 at S4 hF4 hMk4 hNu4 rw4 fresh4 ⊢
    refine ⟨_, rfl, Mk, mk, rfl, SqL.of hMk4, by have := C.len; omega, fun st c nst => ?_⟩
    have sS := same_new (o := SetO w st (fun i => decide (i ∈ mk)) c) nst
    refine ⟨st, _, c, rfl, upd_same, fun kk knd kmem => ?_⟩
    have kl := dist_len C hN knd kmem
    rw [kl]
    intro Dd nD
    have sD := same_new (o := .dT []) nD
    refine ⟨by show 0 ≤ sizeLine; decide, fun Mo nMo => ?_⟩
    have sM := same_new (o := .lst []) nMo
    have s5 := sS.trans (sD.trans sM)
    have hD5 := sM _ _ (upd_same (H := upd H4 st (SetO w st (fun i => decide (i ∈ mk)) c)) (a := Dd) (o := .dT []))
    have hM5 := upd_same (H := upd (upd H4 st (SetO w st (fun i => decide (i ∈ mk)) c)) Dd (.dT [])) (a := Mo) (o := .lst [])
    have nDo : H4 Dd = none := sS.free nD
    have nMoo : H4 Mo = none := (sS.trans sD).free nMo
    have nDM : Dd ≠ Mo := fun z => by rw [← z, upd_same] at nMo; cases nMo
    have lal : ((alls m).map (itr (stp t p m) j)).length = m.toNat := by rw [List.length_map, alls_len]
    refine ⟨_, rfl, _, rfl, false, false, Mk, Nu, _, _, rfl, SqL.of (s5 _ _ hMk4), SqL.of (s5 _ _ hNu4), ?_⟩
    refine for_it (walk_x2 (K := K) (t1 := false) (t2 := false) (a1 := Mk) (a2 := Nu) (l1 := mk.map V.int) (l2 := ((alls m).map (itr (stp t p m) j)).map V.int) (n := m.toNat) (by simp only [List.length_map, alls_len, C.len]; omega))
      (fun i σ H' => ∃ (y8 y9 y10 : Option V) (ks : List (Int × Int)), σ = [some (.ref r), some (.int pt), some (.ref Nu), some (.ref Mk), some (.ref F), some (.int (N + 1)), some (.ref Dd), some (.ref Mo), y8, y9, y10] ∧ Same H4 H' ∧ H' Dd = some (.dT (enumT 0 ks)) ∧ H' Mo = some (.lst ((fiG (kyM (stp t p m) pt j mk) ks i).map V.int)) ∧ KyG (kyM (stp t p m) pt j mk) i ks ∧ ks.length ≤ i) ?_ ?_ ?_ ?_
    · exact ⟨_, _, _, [], rfl, s5, hD5, hM5, kyG_zero _, Nat.le_refl _⟩
    · rintro i σ H' _ ⟨y8, y9, y10, ks, rfl, sm, _⟩
      exact ⟨SqL.of (sm _ _ hMk4), SqL.of (sm _ _ hNu4)⟩
    · rintro i x σ Ha Ha' hi ⟨y8, y9, y10, ks, rfl, sm, hD, hMo, KG, kle⟩ ⟨T0, x1, x2, rfl, nT, rfl, k1, k2⟩
      obtain ⟨rfl, b1⟩ := vget k1
      obtain ⟨rfl, b2⟩ := vget k2
      rw [lal] at b2
      have ex : ((alls m).map (itr (stp t p m) j)).getD i 0 = itr (stp t p m) j (i : Int) := by
        rw [List.getD_eq_getElem?_getD, List.getElem?_map]
        unfold alls
        rw [List.getElem?_map, List.getElem?_range b2]
        rfl
      rw [ex]
      have ib := itr_rng (t := t) (p := p) m0 (s := (i : Int)) ⟨by omega, by omega⟩ j
      have sT := same_new (o := .tup [.int (mk.getD i 0), .int (itr (stp t p m) j (i : Int))]) nT
      refine ⟨T0, _, rfl, SqT.of upd_same, rfl, _, _, rfl, _, _, rfl, rfl, ?_⟩
      refine ⟨_, rfl, _, rfl, _, rfl, _, _, rfl, rfl, ⟨by omega, by omega⟩, by show 2 ≤ sizeLine; decide, fun U nU => ?_⟩
      have sU := same_new (o := .tup [.int (mk.getD i 0), .int (itr (stp t p m) j (i : Int) / pt)]) nU
      have hU : (upd (upd Ha T0 (.tup [.int (mk.getD i 0), .int (itr (stp t p m) j (i : Int))])) U (.tup [.int (mk.getD i 0), .int (itr (stp t p m) j (i : Int) / pt)])) U = some (.tup ((keyT (kyM (stp t p m) pt j mk i)).map kV)) := upd_same
      have hD2 := (sT.trans sU) _ _ hD
      have hM2 := (sT.trans sU) _ _ hMo
      have sm2 := sm.trans (sT.trans sU)
      generalize upd (upd Ha T0 (.tup [.int (mk.getD i 0), .int (itr (stp t p m) j (i : Int))])) U (.tup [.int (mk.getD i 0), .int (itr (stp t p m) j (i : Int) / pt)]) = Hb at hU hD2 hM2 sm2 ⊢
      have ksz : (enumT 0 ks).length < sizeLine := by
        rw [enumT_len]
        exact szl (by omega)
      obtain ⟨ks', KG', ef, eP, hm', kle'⟩ := kyG_step KG
      refine ⟨_, rfl, Dd, rfl, .inr ⟨_, .inl hD2⟩, _, rfl, _, rfl, Dd, _, rfl, hD2, _, DGet.t hD2 hU, _, rfl, _, rfl, Dd, _, rfl, DPut.t hD2 hU ksz, ?_⟩
      rw [eP]
      have hD3 : (upd Hb Dd (.dT (enumT 0 ks'))) Dd = some (.dT (enumT 0 ks')) := upd_same
      have hM3 : (upd Hb Dd (.dT (enumT 0 ks'))) Mo = some (.lst ((fiG (kyM (stp t p m) pt j mk) ks i).map V.int)) := by rw [upd_ne (Ne.symm nDM)]; exact hM2
      have nUD : U ≠ Dd := fun z => by rw [z, hD2] at hU; cases hU
      have hU3 : (upd Hb Dd (.dT (enumT 0 ks'))) U = some (.tup ((keyT (kyM (stp t p m) pt j mk i)).map kV)) := by rw [upd_ne nUD]; exact hU
      have gt := DGet.t hD3 hU3
      rw [enumT_some 0 hm'] at gt
      refine ⟨_, rfl, .inl ⟨rfl, _, SqL.of hM3⟩, _, rfl, _, rfl, Dd, _, rfl, gt, Mo, _, _, rfl, rfl, hM3, szl (by rw [List.length_map, fiG_len]; omega), ?_⟩
      refine ⟨_, _, _, ks', rfl, ?_, by rw [upd_ne nDM]; exact hD3, ?_, KG', by omega⟩
      · exact fun b o e => by rw [upd_ne (ne_frz e nMoo), upd_ne (ne_frz e nDo)]; exact sm2 _ _ e
      · rw [upd_same, ef, List.map_append, Nat.zero_add]
        rfl
    rintro σ H6 ⟨y8, y9, y10, ks, rfl, s6, hD6, hM6, KG, kle⟩
    have C' := cl_mark C KG
    have S6 := S4.trans s6
    refine ⟨_, rfl, ?_⟩
    refine ⟨_, rfl, Nu, rfl, ⟨_, SqL.of (s6 _ _ hNu4)⟩, fun Z nZ => ?_⟩
    refine lc_list (K := K) (a := Nu) (xs := ((alls m).map (itr (stp t p m) j)).map V.int) (fun i H' => H' = upd H6 Z (.lst ((((alls m).map (itr (stp t p m) (j + 1))).take i).map V.int)) ∧ i ≤ m.toNat) ⟨rfl, Nat.zero_le _⟩ ?_ ?_ ?_
    · rintro i H' _ ⟨rfl, _⟩
      exact SqL.of ((same_new nZ) _ _ (s6 _ _ hNu4))
    · rintro i x H' hi ⟨rfl, _⟩
      obtain ⟨rfl, b2⟩ := vget hi
      rw [lal] at b2
      have ex : ((alls m).map (itr (stp t p m) j)).getD i 0 = itr (stp t p m) j (i : Int) := by
        rw [List.getD_eq_getElem?_getD, List.getElem?_map]
        unfold alls
        rw [List.getElem?_map, List.getElem?_range b2]
        rfl
      rw [ex]
      have ib := itr_rng (t := t) (p := p) m0 (s := (i : Int)) ⟨by omega, by omega⟩ j
      have g6 : SqT K (upd H6 Z (.lst ((((alls m).map (itr (stp t p m) (j + 1))).take i).map V.int))) r [.int t, .int p, .int m] := (S6.trans (same_new nZ)).tup h1
      refine ⟨rfl, yesX ?_⟩
      have t0 := R.t0
      have t1 := R.t1
      have q0 := R.p0
      have q1 := R.p1
      refine ⟨_, rfl, r, _, 0, .int t, rfl, rfl, g6, rfl, _, rfl, _, _, rfl, rfl, ⟨by unfold Big; omega, by unfold Big; omega⟩, _, rfl, r, _, 1, .int p, rfl, rfl, g6, rfl, _, _, rfl, rfl, _, rfl, r, _, 2, .int m, rfl, rfl, g6, rfl, _, _, rfl, rfl, m0, ?_⟩
      refine ⟨_, upd_same, szl (by rw [List.length_map, List.length_take]; omega), ?_, by omega⟩
      have e3 : ((alls m).map (itr (stp t p m) (j + 1))).take (i + 1) = ((alls m).map (itr (stp t p m) (j + 1))).take i ++ [(t * itr (stp t p m) j (i : Int) + p) % m] := by
        rw [List.take_succ, List.getElem?_map]
        unfold alls
        rw [List.getElem?_map, List.getElem?_range b2]
        rfl
      rw [upd_upd, e3, List.map_append]
      rfl
    rintro H7 ⟨rfl, _⟩
    have e7 : ((alls m).map (itr (stp t p m) (j + 1))).take (((alls m).map (itr (stp t p m) j)).map V.int).length = (alls m).map (itr (stp t p m) (j + 1)) := by
      refine List.take_of_length_le ?_
      rw [List.length_map, List.length_map, List.length_map]
      exact Nat.le_refl _
    rw [e7]
    have s7 := same_new (o := .lst (((alls m).map (itr (stp t p m) (j + 1))).map V.int)) nZ
    have S7 := S6.trans s7
    have hF7 := s7 _ _ (s6 _ _ hF4)
    refine ⟨400001 - (j + 1), by omega, j + 1, Z, Mo, ps ++ [Mk], rs ++ [mk], _, N + 1, _, _, _, _, _, rfl, S7, fun z => ?_, (fresh4 Mo nMoo).1, fun a ha => ?_, fun a ha => ?_, (fresh4 Mo nMoo).2, upd_same, s7 _ _ hM6, hF7, (rw4.same s6).same s7, by rw [List.length_append, lr]; rfl, fun i z hz => ?_, C', fun z => absurd z (by omega), fun i z M hi hz hM => ?_, fun le => by have := ge le; omega, by omega, rfl⟩
    · rw [z] at nZ
      rw [s6 _ _ hF4] at nZ
      cases nZ
    · rcases List.mem_append.mp ha with ha | ha
      · exact nps a ha
      · rw [List.mem_singleton.mp ha]
        exact nMF
    · rcases List.mem_append.mp ha with ha | ha
      · exact fps a ha
      · rw [List.mem_singleton.mp ha]
        exact nMkH
    · by_cases c : i < rs.length
      · rw [List.getElem?_append_left c] at hz
        exact clr i z hz
      · rw [List.getElem?_append_right (by omega)] at hz
        have e : i = rs.length := by
          have := (List.getElem?_eq_some_iff.mp hz).1
          simp at this
          omega
        rw [e] at hz
        simp at hz
        rw [← hz, e, lr]
        exact C
    · have ei : i = rs.length := by omega
      rw [List.getElem?_append_right (by omega), ei] at hz
      simp at hz
      rw [← hz] at hM
      have a := hM.2 _ hN.1
      have b := hN.2 _ hM.1
      omega
  · intro H3 s3 hj ng
    refine ifF rfl ?_
    obtain ⟨i, rfl⟩ : ∃ i, j = i + 1 := ⟨j - 1, by omega⟩
    obtain ⟨z, hz⟩ : ∃ z, rs[i]? = some z := ⟨rs[i], List.getElem?_eq_getElem (by omega)⟩
    have Cz := clr i z hz
    have zn : z ≠ [] := fun e => by
      have := Cz.len
      rw [e] at this
      simp at this
      omega
    obtain ⟨M, hM⟩ := mx_ex zn
    obtain ⟨e1, iM⟩ := cM i z M rfl hz hM
    have bM := (cl_finer Cz hM (fun x => x) (N := m - 1) (fun x x0 x1 => ⟨x0, by show x ≤ m - 1; omega⟩) (fun x y _ _ _ _ e => by rw [e])).1
    have fin := cl_finer Cz hM (gI mk) (N := N) (fun x x0 x1 => ⟨C.pos _ (gI_mem C.len x0 x1), hN.2 _ (gI_mem C.len x0 x1)⟩) (fun x y x0 x1 y0 y1 e => (Cz.eq x y x0 x1 y0 y1).mpr (eqK_mono ((C.eq x y x0 x1 y0 y1).mp e) (Nat.le_succ i)))
    refine ⟨_, rfl, q _ F ps rs (S2.trans s3) nFH fps (s3 _ _ hF) (rw_.same s3) ⟨clr, by omega, fun x y x0 x1 y0 y1 h => ?_⟩ (by omega)⟩
    rw [lr, Nat.add_sub_cancel] at h
    rw [lr]
    exact (C.eq x y x0 x1 y0 y1).mp (fin.2 (by omega) x y x0 x1 y0 y1 ((Cz.eq x y x0 x1 y0 y1).mpr h))
end
end Tw


namespace Tw
open PySem PySem.Spec PyProof.Rows L2
abbrev s_settled : Stmt := topS 30
theorem sc_settled : FnScope ["marks", "start", "many"] ["marks", "start"] (defScope s_settled) := ⟨rfl, rfl, rfl, by decide +kernel, rfl, by decide +kernel, by decide +kernel⟩
abbrev s_all_settled : Stmt := topS 31
theorem sc_all_settled : FnScope ["marks", "bound", "many"] ["marks", "bound"] (defScope s_all_settled) := ⟨rfl, rfl, rfl, by decide +kernel, rfl, by decide +kernel, by decide +kernel⟩
def pSet21 : V → V → Hp → VK → XK → Prop := fun a b H Q _ => ∃ (F : Addr) (ps : List Addr) (rs : List (List Int)) (t p m pt s : Int), a = .ref F ∧ b = .int s ∧ H F = some (.lst (ps.map V.ref)) ∧ RowsL H ps rs ∧ Mks (stp t p m) pt m rs ∧ rs.length ≤ 400001 ∧ 0 ≤ s ∧ s < m ∧ ∀ v, Lst (Alone (stp t p m) pt m s) v → Q v H
def pAll21 : V → V → Hp → VK → XK → Prop := fun a b H Q _ => ∃ (F : Addr) (ps : List Addr) (rs : List (List Int)) (t p m pt : Int), a = .ref F ∧ b = .int m ∧ H F = some (.lst (ps.map V.ref)) ∧ RowsL H ps rs ∧ Mks (stp t p m) pt m rs ∧ rs.length ≤ 400001 ∧ 0 < m ∧ m ≤ 2000 ∧ ∀ H' v, Same H H' → Lst (Apar (stp t p m) pt m) v → Q v H'
section
variable {P : Program} {w : World} {K : PySem.W.Frag} {mg : Str → Option Value} {base : Heap}
theorem ok_settled (D : Top K mg "_law_settled" s_settled ["marks", "start"]) (z_len : mg "len" = none) (z_range : mg "range" = none) : Has P w K mg base CX0 1 "_law_settled" ["marks", "start"] (sp2 pSet21) := by
  refine D.ok2 sc_settled (fun f cdv A outer s H v1 v2 Q E hr h => ?_)
  obtain ⟨F, ps, rs, t, p, m, pt, st, rfl, rfl, hF, rw_, M, rl, s0, s1, q⟩ := h
  refine ⟨_, (pss_cons (ps_for PassesOwn.never rfl (pi_range1 (by rfl) z_range (pa_cons (pe_callB (id := "len") call_len_seq (by rfl) z_len (by decide +kernel) (pa_cons (pv 0) pa_nil)) pa_nil)) (pg_name (i := 2) sc_settled.nd rfl (.inl rfl)) (pss_one (ps_if (pt_cmpR op_eq (pe_bm PySem.F.plainAttrs_list PySem.F.slot_list_count PySem.F.type_list_count mt_lcount (pe_ix ix_list (pv 0) (pv 2) (fun _ _ => rfl)) (pa_cons (pe_ix ix_list (pe_ix ix_list (pv 0) (pv 2) (fun _ _ => rfl)) (pv 1) (fun _ _ => rfl)) pa_nil)) pe_int (nomark _)) (pss_one (ps_ret (pv 2))) pss_nil)))
 (pss_one (ps_ret pe_non))), ?_⟩
  have el : (ps.map V.ref).length = rs.length := by rw [List.length_map, rw_.len]
  have fr := fun x => stp_rng (t := t) (p := p) (m := m) (by omega) x
  refine ⟨_, rfl, F, _, rfl, .inl (SqL.of hF), ((ps.map V.ref).length : Nat), rfl, by omega, by omega, for_range (lo := 0) (n := (((ps.map V.ref).length : Nat) : Int).toNat) (fun i σ H' => ∃ y2 : Option V, σ = [some (.ref F), some (.int st), y2] ∧ H' = H ∧ ∀ k, k < i → ¬ Alone (stp t p m) pt m st k) ⟨_, rfl, rfl, fun k hk => absurd hk (Nat.not_lt_zero _)⟩ ?_ ?_⟩
  · rintro i σ H' hi ⟨y2, rfl, rfl, no⟩
    have il : i < rs.length := by omega
    obtain ⟨z, hz⟩ : ∃ z, rs[i]? = some z := ⟨rs[i], List.getElem?_eq_getElem il⟩
    have C := M.cl i z hz
    obtain ⟨a, ha, hza⟩ := rw_.get hz
    have at1 : atI (ps.map V.ref) (0 + (i : Int)) = some (.ref a) := by
      rw [Int.zero_add]
      exact atI_nat (by rw [List.getElem?_map, ha]; rfl)
    have at2 := atI_z (cs := z) s0 (by have := C.len; omega)
    have one := cl_one C s0 s1
    refine ⟨_, rfl, _, rfl, F, _, 0 + (i : Int), .ref a, rfl, rfl, SqL.of hF, at1, .inl ⟨rfl, _, SqL.of hza⟩, _, rfl, _, rfl, F, _, 0 + (i : Int), .ref a, rfl, rfl, SqL.of hF, at1, _, rfl, a, _, st, _, rfl, rfl, SqL.of hza, at2, a, z, _, rfl, rfl, SqL.of hza, rfl, _, rfl, ifI (fun e => ?_) (fun ne => ?_)⟩
    · have e' : z.count (gI z st) = 1 := Int.ofNat_inj.mp e
      refine ⟨_, rfl, q _ (.inr ⟨i, by rw [Int.zero_add], one.mp e', no⟩)⟩
    · refine ⟨_, rfl, rfl, fun k hk => ?_⟩
      by_cases c : k = i
      · rw [c]
        exact fun al => ne (by
          have e' : z.count (gI z st) = 1 := one.mpr al
          show ((z.count (gI z st) : Nat) : Int) = 1
          rw [e']
          rfl)
      · exact no k (by omega)
  · rintro σ H' ⟨y2, rfl, rfl, no⟩
    exact q _ (M.lst fr (alone_on s0 s1) fun k hk => no k (by omega))
theorem ok_all_settled (D : Top K mg "_law_all_settled" s_all_settled ["marks", "bound"]) (z_len : mg "len" = none) (z_range : mg "range" = none) (z_set : mg "set" = none) : Has P w K mg base CX0 1 "_law_all_settled" ["marks", "bound"] (sp2 pAll21) := by
  refine D.ok2 sc_all_settled (fun f cdv A outer s H v1 v2 Q E hr h => ?_)
  obtain ⟨F, ps, rs, t, p, m, pt, rfl, rfl, hF, rw_, M, rl, m0, mM, q⟩ := h
  refine ⟨_, (pss_cons (ps_for PassesOwn.never rfl (pi_range1 (by rfl) z_range (pa_cons (pe_callB (id := "len") call_len_seq (by rfl) z_len (by decide +kernel) (pa_cons (pv 0) pa_nil)) pa_nil)) (pg_name (i := 2) sc_all_settled.nd rfl (.inl rfl)) (pss_one (ps_if (pt_cmpR op_eq (pe_callB (id := "len") cr_lenSet (by rfl) z_len (by decide +kernel) (pa_cons (pe_callTy (cr_setI rfl) (by rfl) z_set (by decide +kernel) (pa_cons (pe_ix ix_list (pv 0) (pv 2) (fun _ _ => rfl)) pa_nil)) pa_nil)) (pv 1) (nomark _)) (pss_one (ps_ret (pv 2))) pss_nil)))
 (pss_one (ps_ret pe_non))), ?_⟩
  have el : (ps.map V.ref).length = rs.length := by rw [List.length_map, rw_.len]
  have fr := fun x => stp_rng (t := t) (p := p) m0 x
  refine ⟨_, rfl, F, _, rfl, .inl (SqL.of hF), ((ps.map V.ref).length : Nat), rfl, by omega, by omega, for_range (lo := 0) (n := (((ps.map V.ref).length : Nat) : Int).toNat) (fun i σ H' => ∃ y2 : Option V, σ = [some (.ref F), some (.int m), y2] ∧ Same H H' ∧ ∀ k, k < i → ¬ Apar (stp t p m) pt m k) ⟨_, rfl, fun _ _ z => z, fun k hk => absurd hk (Nat.not_lt_zero _)⟩ ?_ ?_⟩
  · rintro i σ H' hi ⟨y2, rfl, sm, no⟩
    have il : i < rs.length := by omega
    obtain ⟨z, hz⟩ : ∃ z, rs[i]? = some z := ⟨rs[i], List.getElem?_eq_getElem il⟩
    have C := M.cl i z hz
    obtain ⟨a, ha, hza⟩ := rw_.get hz
    have at1 : atI (ps.map V.ref) (0 + (i : Int)) = some (.ref a) := by
      rw [Int.zero_add]
      exact atI_nat (by rw [List.getElem?_map, ha]; rfl)
    have zn : z ≠ [] := fun e => by
      have := C.len
      rw [e] at this
      simp at this
      omega
    obtain ⟨N, hN⟩ := mx_ex zn
    have all := cl_all m0 C hN
    refine ⟨_, rfl, _, rfl, F, _, 0 + (i : Int), .ref a, rfl, rfl, SqL.of (sm _ _ hF), at1, a, z, rfl, SqL.of (sm _ _ hza), by have := C.len; omega, fun st c nst => ?_⟩
    have sS := same_new (o := SetO w st (fun i => decide (i ∈ z)) c) nst
    refine ⟨st, _, c, rfl, upd_same, fun ks knd kmem => ?_⟩
    have kl := dist_len C hN knd kmem
    refine ⟨_, rfl, rfl, _, rfl, ifI (fun e => ?_) (fun ne => ?_)⟩
    · exact ⟨_, rfl, q _ _ (sm.trans sS) (.inr ⟨i, by rw [Int.zero_add], all.mp (by omega), no⟩)⟩
    · refine ⟨_, rfl, sm.trans sS, fun k hk => ?_⟩
      by_cases c : k = i
      · rw [c]
        exact fun al => ne (by have := all.mpr al; omega)
      · exact no k (by omega)
  · rintro σ H' ⟨y2, rfl, sm, no⟩
    exact q _ _ sm (M.lst fr apar_on fun k hk => no k (by omega))
end
end Tw


namespace Tw
open PySem PySem.Spec PyProof.Rows L2
abbrev s_by_parts : Stmt := topS 32
theorem sc_by_parts : FnScope ["rule", "start", "part", "rows", "many", "one", "number", "row"] ["rule", "start", "part"] (defScope s_by_parts) := ⟨rfl, rfl, rfl, by decide +kernel, rfl, by decide +kernel, by decide +kernel⟩
theorem prts_iff {t p m pt x s : Int} {k : Nat} : prts t p m k x pt = prts t p m k s pt ↔ shB t p m pt (prts t p m k s pt) x = true := by
  rw [shB_any]
  constructor
  · intro e i hi
    have a := prts_gD (t := t) (p := p) (m := m) (pt := pt) (s := x) hi
    rw [e, prts_gD hi] at a
    exact a.symm
  · exact fun h => prts_eq h
theorem cnt_alone {t p m pt s : Int} {k : Nat} (s0 : 0 ≤ s) (s1 : s < m) : ((alls m).map fun x => prts t p m k x pt).countP (fun z => decide (z = prts t p m k s pt)) = 1 ↔ Alone (stp t p m) pt m s k := by
  have e : ((alls m).map fun x => prts t p m k x pt).countP (fun z => decide (z = prts t p m k s pt)) = (stL t p m pt (prts t p m k s pt)).length := by
    unfold stL
    rw [List.countP_map, ← List.countP_eq_length_filter]
    refine List.countP_congr fun x _ => ?_
    show decide (prts t p m k x pt = prts t p m k s pt) = true ↔ _
    rw [decide_eq_true_iff]
    exact prts_iff
  rw [e]
  constructor
  · exact fun l => Classical.byContradiction fun n => by have := st_more s0 s1 n; omega
  · exact fun a => by rw [st_alone s0 s1 a]; rfl
theorem prts_take {t p m pt s : Int} {k n : Nat} (h : k ≤ n) : (prts t p m n s pt).take k = prts t p m k s pt := by
  unfold prts orb
  rw [← List.map_take, ← List.map_take, List.take_range, Nat.min_eq_left h]
/-- no finer behind some row -/
def Stb (f : Int → Int) (pt m : Int) : Prop := ∃ L : Nat, 1 ≤ L ∧ (L : Int) ≤ m ∧ ∀ x y, 0 ≤ x → x < m → 0 ≤ y → y < m → EqK f pt (L - 1) x y → EqK f pt L x y
theorem Stb.no {f : Int → Int} {pt m : Int} {St : Nat → Prop} (h : Stb f pt m) (fr : ∀ x, 0 ≤ f x ∧ f x < m) (on : OnEq f pt m St) (no : ∀ k : Nat, (k : Int) ≤ m → ¬ St k) : Lst St .non := by
  obtain ⟨L, L1, Lm, st⟩ := h
  refine .inl ⟨rfl, fun k s => ?_⟩
  by_cases c : (k : Int) ≤ m
  · exact no k c s
  refine no (L - 1) (by omega) ?_
  have e : L - 1 + 1 = L := by omega
  refine (on (L - 1) k fun x y x0 x1 y0 y1 => ⟨fun q => ?_, fun q => eqK_mono q (by omega)⟩).mpr s
  exact eqK_stable fr (k := L - 1) (fun x y x0 x1 y0 y1 q => by rw [e]; exact st x y x0 x1 y0 y1 q) k (by omega) x y x0 x1 y0 y1 q
def pBy21 (K : PySem.W.Frag) : V → V → V → Hp → VK → XK → Prop := fun a b c H Q _ => ∃ (r : Addr) (t p m s pt : Int), a = .ref r ∧ b = .int s ∧ c = .int pt ∧ SqT K H r [.int t, .int p, .int m] ∧ Rule t p m ∧ m ≤ 12 ∧ 0 ≤ s ∧ s < m ∧ 1 ≤ pt ∧ pt ≤ 1000000000000 ∧ Stb (stp t p m) pt m ∧ ∀ H' v, Same H H' → Lst (Alone (stp t p m) pt m s) v → Q v H'
section
variable {P : Program} {w : World} {K : PySem.W.Frag} {mg : Str → Option Value} {base : Heap}
theorem ok_by_parts (D : Top K mg "_law_by_parts" s_by_parts ["rule", "start", "part"]) (h_row : Has P w K mg base CX0 1 "_law_row" ["rule", "start", "many"] (sp3 (pRowB K))) (z_range : mg "range" = none) : Has P w K mg base CX0 2 "_law_by_parts" ["rule", "start", "part"] (sp3 (pBy21 K)) := by
  refine D.ok3 sc_by_parts (fun f cdv A outer s H v1 v2 v3 Q E hr h => ?_)
  obtain ⟨r, t, p, m, st, pt, rfl, rfl, rfl, h1, R, mM, s0, s1, p0, p1, sb, q⟩ := h
  refine ⟨_, (pss_cons (ps_setLc (i := 3) (own := [("one", 5)]) (by rfl) sc_by_parts.nd rfl rfl (sw_true rfl rfl rfl (by decide +kernel)) (pi_range1 (by rfl) z_range (pa_cons (pe_ix ix_tup (pv 0) pe_int (fun _ _ => rfl)) pa_nil)) (blkOk_by (own := [("one", 5)]) (N := ["rule", "start", "part", "rows", "many", "one", "number", "row"]) (sc := defScope s_by_parts) (by decide +kernel)) (fun _ _ _ _ _ => pg_name (i := 5) sc_by_parts.nd rfl (Or.inl rfl)) (fun _ _ _ _ _ => pts_nil) (fun _ _ _ _ _ => (pe_lc (own := [("number", 6)]) (by rfl) sc_by_parts.nd (pi_listK (K := K) rfl (pe_own h_row (hr.mono (by decide)) pass0 (pa_cons (pv 0) (pa_cons (pv 5) (pa_cons (pe_ix (ix_tup : IxR _ (rIxT K)) (pv 0) pe_int (fun _ _ => rfl)) pa_nil))))) (blkOk_by (own := [("number", 6)]) (N := ["rule", "start", "part", "rows", "many", "one", "number", "row"]) (by kernel_rfl)) (fun _ _ _ _ _ => pg_name (i := 6) sc_by_parts.nd rfl (Or.inl rfl)) (fun _ _ _ _ _ => pts_nil) (fun _ _ _ _ _ => (pe_op op_fdivB (pv 6) (pv 2))))))
 (pss_cons (ps_for PassesOwn.never rfl (pi_range1 (by rfl) z_range (pa_cons (pe_op op_add (pe_ix ix_tup (pv 0) pe_int (fun _ _ => rfl)) pe_int) pa_nil)) (pg_name (i := 4) sc_by_parts.nd rfl (.inr rfl)) (pss_one (ps_if (pt_cmpR op_eq (pe_bm PySem.F.plainAttrs_list PySem.F.slot_list_count PySem.F.type_list_count (mt_countL hr.units) (pe_lc (own := [("row", 7)]) (by rfl) sc_by_parts.nd (pi_list (pv 3)) (blkOk_by (own := [("row", 7)]) (N := ["rule", "start", "part", "rows", "many", "one", "number", "row"]) (sc := defScope s_by_parts) (by decide +kernel)) (fun _ _ _ _ _ => pg_name (i := 7) sc_by_parts.nd rfl (Or.inl rfl)) (fun _ _ _ _ _ => pts_nil) (fun _ _ _ _ _ => (pe_slice (sl_list : SlR _ (rSlL K)) (pv 7) po_none (po_some (pv 4))))) (pa_cons (pe_slice sl_list (pe_ix ix_list (pv 3) (pv 1) (fun _ _ => rfl)) po_none (po_some (pv 4))) pa_nil)) pe_int (nomark _)) (pss_one (ps_ret (pv 4))) pss_nil)))
 (pss_one (ps_ret pe_non)))), ?_⟩
  have m0 := R.pos
  have fr := fun x => stp_rng (t := t) (p := p) m0 x
  refine ⟨_, rfl, r, _, 2, .int m, rfl, rfl, h1, rfl, m, rfl, by omega, by omega, fun L nL => ?_⟩
  refine lc_range (lo := 0) (n := m.toNat) (fun j H' => ∃ ps : List Addr, H' L = some (.lst (ps.map V.ref)) ∧ RowsL H' ps ((alls (j : Int)).map fun x => prts t p m m.toNat x pt) ∧ (∀ a ∈ ps, a ≠ L) ∧ ps.length = j ∧ j ≤ m.toNat ∧ Same H H') ⟨[], upd_same, True.intro, fun a h => (by cases h), rfl, Nat.zero_le _, same_new nL⟩ ?_ ?_
  · rintro j H1 hj ⟨ps, hL, rw_, np, lp, jm, s1'⟩
    refine ⟨rfl, yesX ?_⟩
    refine ⟨_, rfl, _, rfl, _, rfl, r, _, 2, .int m, rfl, rfl, s1'.tup h1, rfl, _, _, _, rfl, r, t, p, m, 0 + (j : Int), m, rfl, rfl, rfl, s1'.tup h1, R, by omega, by omega, by omega, by omega, fun H2 lr s2 n2 hlr => ?_⟩
    refine ⟨lr, rfl, ⟨_, SqL.of hlr⟩, fun Z nZ => ?_⟩
    have X2 := s1'.trans s2
    have hL2 := s2 _ _ hL
    have nZL : Z ≠ L := fun z => by rw [z, hL2] at nZ; cases nZ
    refine lc_list (K := K) (a := lr) (xs := (orb (stp t p m) m.toNat (0 + (j : Int))).map V.int) (fun i H' => H' = upd H2 Z (.lst (((prts t p m m.toNat (0 + (j : Int)) pt).take i).map V.int)) ∧ i ≤ m.toNat) ⟨rfl, Nat.zero_le _⟩ ?_ ?_ ?_
    · rintro i H' _ ⟨rfl, _⟩
      exact SqL.of ((same_new nZ) _ _ hlr)
    · rintro i x H' hi ⟨rfl, _⟩
      obtain ⟨rfl, b2⟩ := vget hi
      rw [orb_len] at b2
      refine ⟨rfl, yesX ?_⟩
      refine ⟨_, rfl, _, rfl, _, _, rfl, rfl, ⟨by omega, by omega⟩, ?_⟩
      refine ⟨_, upd_same, szl (by rw [List.length_map, List.length_take]; omega), ?_, by omega⟩
      have e3 : (prts t p m m.toNat (0 + (j : Int)) pt).take (i + 1) = (prts t p m m.toNat (0 + (j : Int)) pt).take i ++ [(orb (stp t p m) m.toNat (0 + (j : Int))).getD i 0 / pt] := by
        rw [List.take_succ]
        unfold prts
        rw [List.getElem?_map, orb_gt _ _ b2, orb_gD _ _ b2]
        rfl
      rw [upd_upd, e3, List.map_append]
      rfl
    rintro H3 ⟨rfl, _⟩
    have e7 : (prts t p m m.toNat (0 + (j : Int)) pt).take ((orb (stp t p m) m.toNat (0 + (j : Int))).map V.int).length = prts t p m m.toNat (j : Int) pt := by
      rw [Int.zero_add]
      refine List.take_of_length_le ?_
      rw [List.length_map, orb_len, prts_len]
      exact Nat.le_refl _
    rw [e7]
    have sZ := same_new (o := .lst ((prts t p m m.toNat (j : Int) pt).map V.int)) nZ
    have hL3 := sZ _ _ hL2
    have off : ∀ b o, b ≠ L → (upd H2 Z (.lst ((prts t p m m.toNat (j : Int) pt).map V.int))) b = some o → (upd (upd H2 Z (.lst ((prts t p m m.toNat (j : Int) pt).map V.int))) L (.lst (ps.map V.ref ++ [.ref Z]))) b = some o := fun b o n e => by rw [upd_ne n]; exact e
    refine ⟨_, hL3, szl (by rw [List.length_map]; omega), ps ++ [Z], by rw [upd_same, List.map_append]; rfl, ?_, fun a ha => ?_, by rw [List.length_append, lp]; rfl, by omega, fun b o e => ?_⟩
    · have es : alls ((j + 1 : Nat) : Int) = alls (j : Int) ++ [(j : Int)] := allsN_succ j
      rw [es, List.map_append]
      exact (((rw_.same s2).same sZ).off off np).snoc (off _ _ nZL upd_same)
    · rcases List.mem_append.mp ha with ha | ha
      · exact np a ha
      · rw [List.mem_singleton.mp ha]
        exact nZL
    · rw [upd_ne (ne_frz e nL)]
      exact (X2.trans sZ) b o e
  rintro H1 ⟨ps, hL, rw_, np, lp, _, S1⟩
  rw [show ((m.toNat : Nat) : Int) = m by omega] at rw_
  refine ⟨_, rfl, r, _, 2, .int m, rfl, rfl, S1.tup h1, rfl, _, _, rfl, rfl, m + 1, rfl, by omega, by omega, for_range (lo := 0) (n := (m + 1).toNat) (fun i σ H' => ∃ y4 : Option V, σ = [some (.ref r), some (.int st), some (.int pt), some (.ref L), y4, none, none, none] ∧ Same H1 H' ∧ ∀ k, k < i → ¬ Alone (stp t p m) pt m st k) ⟨_, rfl, fun _ _ z => z, fun k hk => absurd hk (Nat.not_lt_zero _)⟩ ?_ ?_⟩
  · rintro i σ H2 hi ⟨y4, rfl, sm, no⟩
    have im : i ≤ m.toNat := by omega
    have hL2 := sm _ _ hL
    have rw2 := rw_.same sm
    refine ⟨_, rfl, L, rfl, ⟨_, SqL.of hL2⟩, fun Z nZ => ?_⟩
    have nZL : Z ≠ L := fun z => by rw [z, hL2] at nZ; cases nZ
    refine lc_list (K := K) (a := L) (xs := ps.map V.ref) (fun j H' => ∃ qs : List Addr, H' Z = some (.lst (qs.map V.ref)) ∧ RowsL H' qs ((alls (j : Int)).map fun x => prts t p m i x pt) ∧ (∀ a ∈ qs, a ≠ Z) ∧ qs.length = j ∧ j ≤ m.toNat ∧ Same H2 H') ⟨[], upd_same, True.intro, fun a h => (by cases h), rfl, Nat.zero_le _, same_new nZ⟩ ?_ ?_ ?_
    · rintro j H' _ ⟨qs, _, _, _, _, _, s3⟩
      exact SqL.of (s3 _ _ hL2)
    · rintro j x H3 hj ⟨qs, hZ, rq, nq, lq, jm, s3⟩
      obtain ⟨a, ha, rfl⟩ := rget hj
      have jl : j < ps.length := by
        have := (List.getElem?_eq_some_iff.mp hj).1
        rw [List.length_map] at this
        exact this
      have gz : ((alls m).map fun x => prts t p m m.toNat x pt)[j]? = some (prts t p m m.toNat (j : Int) pt) := by
        rw [List.getElem?_map]
        unfold alls
        rw [List.getElem?_map, List.getElem?_range (by omega)]
        rfl
      obtain ⟨a', ha', hz⟩ := rw2.get gz
      have ea : a = a' := by
        rw [List.getElem?_map, ha'] at hj
        cases hj
        rfl
      subst ea
      have hz3 := s3 _ _ hz
      refine ⟨rfl, yesX ?_⟩
      refine ⟨_, rfl, _, rfl, _, rfl, a, _, rfl, SqL.of hz3, fun u nu => ?_⟩
      rw [Int.zero_add, cut_takeI, prts_take im]
      have su := same_new (o := .lst ((prts t p m i (j : Int) pt).map V.int)) nu
      have hZ4 := su _ _ hZ
      have nuZ : u ≠ Z := fun z => by rw [z, hZ] at nu; cases nu
      have off : ∀ b o, b ≠ Z → (upd H3 u (.lst ((prts t p m i (j : Int) pt).map V.int))) b = some o → (upd (upd H3 u (.lst ((prts t p m i (j : Int) pt).map V.int))) Z (.lst (qs.map V.ref ++ [.ref u]))) b = some o := fun b o n e => by rw [upd_ne n]; exact e
      refine ⟨_, hZ4, szl (by rw [List.length_map]; omega), qs ++ [u], by rw [upd_same, List.map_append]; rfl, ?_, fun b hb => ?_, by rw [List.length_append, lq]; rfl, by omega, fun b o e => ?_⟩
      · have es : alls ((j + 1 : Nat) : Int) = alls (j : Int) ++ [(j : Int)] := allsN_succ j
        rw [es, List.map_append]
        exact ((rq.same su).off off nq).snoc (off _ _ nuZ upd_same)
      · rcases List.mem_append.mp hb with hb | hb
        · exact nq b hb
        · rw [List.mem_singleton.mp hb]
          exact nuZ
      · rw [upd_ne (ne_frz e nZ)]
        exact (s3.trans su) b o e
    rintro H3 ⟨qs, hZ, rq, nq, lq, _, s3⟩
    rw [List.length_map, lp, show ((m.toNat : Nat) : Int) = m by omega] at rq
    have gz : ((alls m).map fun x => prts t p m m.toNat x pt)[st.toNat]? = some (prts t p m m.toNat st pt) := by
      rw [List.getElem?_map]
      unfold alls
      rw [List.getElem?_map, List.getElem?_range (by omega)]
      show some (prts t p m m.toNat ((st.toNat : Nat) : Int) pt) = _
      rw [show ((st.toNat : Nat) : Int) = st by omega]
    obtain ⟨a, ha, hz⟩ := rw2.get gz
    have at1 : atI (ps.map V.ref) st = some (.ref a) := by
      have := atI_nat (show (ps.map V.ref)[st.toNat]? = some (V.ref a) by rw [List.getElem?_map, ha]; rfl)
      rw [show ((st.toNat : Nat) : Int) = st by omega] at this
      exact this
    refine ⟨.inl ⟨rfl, _, SqL.of hZ⟩, _, rfl, _, rfl, L, _, st, .ref a, rfl, rfl, SqL.of (s3 _ _ hL2), at1, _, rfl, _, rfl, a, _, rfl, SqL.of (s3 _ _ hz), fun u nu => ?_⟩
    rw [Int.zero_add, cut_takeI, prts_take im]
    have su := same_new (o := .lst ((prts t p m i st pt).map V.int)) nu
    refine ⟨Z, u, qs, _, _, rfl, rfl, SqL.of (su _ _ hZ), rq.same su, SqL.of upd_same, rfl, _, rfl, ifI (fun e => ?_) (fun ne => ?_)⟩
    · exact ⟨_, rfl, q _ _ (S1.trans (sm.trans (s3.trans su))) (.inr ⟨i, rfl, (cnt_alone s0 s1).mp (Int.ofNat_inj.mp e), no⟩)⟩
    · refine ⟨_, rfl, sm.trans (s3.trans su), fun k hk => ?_⟩
      by_cases c : k = i
      · rw [c]
        exact fun al => ne (Int.ofNat_inj.mpr ((cnt_alone s0 s1).mpr al))
      · exact no k (by omega)
  · rintro σ H2 ⟨y4, rfl, sm, no⟩
    exact q _ _ (S1.trans sm) (sb.no fr (alone_on s0 s1) fun k hk => no k (by omega))
end
end Tw


namespace Tw
open PySem PySem.Spec PyProof.Rows L2
abbrev s_refused : Stmt := topS 33
theorem sc_refused : FnScope ["deck", "rule", "part", "bad", "caught", "e"] ["deck", "rule", "part"] (defScope s_refused) := ⟨rfl, rfl, rfl, by decide +kernel, rfl, by decide +kernel, by decide +kernel⟩
theorem tabs_off {T : List (Addr × Str)} {H H' : Hp} {L : Addr} {vs : List V} (t : LamX.Tabs T H) (hL : H L = some (.lst vs)) (b : ∀ x o, x ≠ L → H x = some o → H' x = some o) : LamX.Tabs T H' := fun p hp => by
  obtain ⟨ps, h1, h2, h3⟩ := t p hp
  refine ⟨ps, b _ _ (fun z => ?_) h1, h2, fun pos cv hc => ?_⟩
  · rw [z, hL] at h1
    cases h1
  · obtain ⟨c, e1, e2⟩ := h3 pos cv hc
    refine ⟨c, e1, b _ _ (fun z => ?_) e2⟩
    rw [z, hL] at e2
    simp [LamX.CodeO] at e2
theorem tabs_but {T : List (Addr × Str)} {H H' : Hp} {d : Addr} {n : Nat} (t : LamX.Tabs T H) (D : DeckB H d n) (b : But d H H') : LamX.Tabs T H' := by
  obtain ⟨g, x, k, e, _⟩ := D
  exact tabs_off t e b
theorem deck_ext {H H' : Hp} {d : Addr} {n : Nat} (D : DeckB H d n) (e : LamX.ExtN H H') : DeckB H' d n := by
  obtain ⟨g, x, k, h, r⟩ := D
  exact ⟨g, x, k, e _ _ h (fun ps z => by cases z), r⟩
def pRef21 (K : PySem.W.Frag) (T : List (Addr × Str)) : V → V → V → Hp → VK → XK → Prop := fun a b c H Q _ => ∃ (d r : Addr) (n : Nat) (t p m pt : Int), a = .ref d ∧ b = .ref r ∧ c = .int pt ∧ SqT K H r [.int t, .int p, .int m] ∧ Rule t p m ∧ m ≤ 2000 ∧ 1 ≤ pt ∧ pt ≤ 1000000000000 ∧ LamX.Tabs T H ∧ DeckB H d n ∧ n + 3 ≤ 100000000 ∧
  ∀ H', But d H H' → DeckB H' d (n + 3) → LamX.Tabs T H' → Q (.bl true) H'
section
variable {P : Program} {w : World} {K : PySem.W.Frag} {mg : Str → Option Value} {base : Heap}
theorem ok_refused {CR CN : Addr} {T : List (Addr × Str)} (D : Top K mg "_law_refused" s_refused ["deck", "rule", "part"]) (h_none : Has P w K mg base CX0 2 "_law_none" ["deck", "bound"] (sp2 pNone)) (h_settled_at : Has P w K mg base (L2.CX P w) 7 "settled_at" ["rule", "start", "part"] (sp3 (pSetAt K CN T)))
    (h_lis_number : Has P w K mg base CX0 3 "_law_is_number" ["caught", "number"] (sp2 (pIsNumB CN))) (g_RowError : mg "RowError" = some (.ref CR)) (xm : PySem.W.exmOne K (.ref CN) (.ref CR) = some true) : Has P w K mg base CX0 8 "_law_refused" ["deck", "rule", "part"] (sp3 (pRef21 K T)) := by
  refine D.ok3 sc_refused (fun f cdv A outer s H v1 v2 v3 Q E hr h => ?_)
  obtain ⟨d, r, n, t, p, m, pt, rfl, rfl, rfl, h1, R, mM, p0, p1, tb, D0, hn, q⟩ := h
  refine ⟨_, (pss_cons (ps_set (i := 3) sc_refused.nd rfl (.inl rfl) (pe_own h_none (hr.mono (by decide)) pass0 (pa_cons (pv 0) (pa_cons (pe_ix ix_tup (pv 1) pe_int (fun _ _ => rfl)) pa_nil))))
 (pss_cons (ps_set (i := 4) sc_refused.nd rfl (.inl rfl) pe_non)
 (pss_cons (ps_try_keep (i := 5) rfl rfl sc_refused.nd rfl rfl ⟨rfl, by decide, .inl g_RowError⟩ (fun W pn xe tk po => (pss_one (ps_expr (pe_ownS h_settled_at (hr.mono (by decide)) (fun σ => passAt tk σ) (pa_cons (pv 1) (pa_cons (pv 3) (pa_cons (pv 2) pa_nil))))))) (fun a pn => (pss_one (ps_set (i := 4) sc_refused.nd rfl (.inl rfl) (pv 5)))))
 (pss_one (ps_ret (pe_own h_lis_number (hr.mono (by decide)) pass0 (pa_cons (pv 4) (pa_cons (pv 3) pa_nil)))))))), ?_⟩
  have m0 := R.pos
  refine ⟨_, rfl, _, rfl, r, _, 2, .int m, rfl, rfl, h1, rfl, _, _, rfl, d, n, m, rfl, rfl, by omega, by omega, D0, by omega, fun H1 y B1 D1 hy => ?_⟩
  have nb : ¬ (0 ≤ y ∧ y < m) := by omega
  refine ⟨_, rfl, _, rfl, _, rfl, _, _, _, rfl, r, t, p, m, y, pt, rfl, rfl, rfl, B1.tupB D0 h1, R, by omega, p0, p1, tabs_but tb D0 B1, fun a b => absurd ⟨a, b⟩ nb, fun _ dd ndd => ?_⟩
  refine ⟨xm, fun xe nx => ?_⟩
  have c1 := same_new (o := .xd [("number", .int y)]) ndd
  have c2 := same_new (o := exv xe (.ref CN) (some dd)) nx
  refine ⟨_, rfl, ?_⟩
  refine ⟨_, rfl, _, rfl, _, _, rfl, xe, dd, y, rfl, rfl, upd_same, c2 _ _ upd_same, fun H2 s2 => ?_⟩
  have S := c1.trans (c2.trans s2)
  exact q _ (B1.trans S.but) (D1.same S) ((tabs_but tb D0 B1).ext S)
end
end Tw


namespace Tw
open PySem PySem.Spec PyProof.Rows L2
abbrev s_law : Stmt := topS 34
theorem sc_law : FnScope ["script", "deck", "turn", "rule", "part", "marks", "k", "start", "due", "none"] ["script"] (defScope s_law) := ⟨rfl, rfl, rfl, by decide +kernel, rfl, by decide +kernel, by decide +kernel⟩
theorem Mks.stb {f : Int → Int} {pt m : Int} {rs : List (List Int)} (h : Mks f pt m rs) (l : (rs.length : Int) ≤ m) : Stb f pt m := ⟨rs.length, h.pos, l, h.st⟩
theorem eqK_big {t p m pt : Int} (m0 : 0 < m) (hp : m ≤ pt) (k : Nat) {x y : Int} (x0 : 0 ≤ x) (x1 : x < m) (y0 : 0 ≤ y) (y1 : y < m) : EqK (stp t p m) pt k x y := fun i _ => by
  have a := itr_rng (t := t) (p := p) m0 ⟨x0, x1⟩ i
  have b := itr_rng (t := t) (p := p) m0 ⟨y0, y1⟩ i
  rw [Int.ediv_eq_zero_of_lt a.1 (by omega), Int.ediv_eq_zero_of_lt b.1 (by omega)]
theorem apar_big {t p m pt : Int} (m0 : 0 < m) (hp : m ≤ pt) {v : V} (l : Lst (Apar (stp t p m) pt m) v) : v = if m = 1 then .int 0 else .non := by
  by_cases c : m = 1
  · rw [if_pos c]
    exact l.uniq (.inr ⟨0, rfl, fun x y _ _ _ _ _ => by omega, fun j hj _ => by omega⟩)
  · rw [if_neg c]
    refine l.uniq (.inl ⟨rfl, fun k a => ?_⟩)
    have h := a 0 1 (by omega) (by omega) (by omega) (by omega) (eqK_big m0 hp k (by omega) (by omega) (by omega) (by omega))
    omega
theorem alone_big {t p m pt : Int} (m0 : 0 < m) (hp : m ≤ pt) {v : V} (l : Lst (Alone (stp t p m) pt m 0) v) : v = if m = 1 then .int 0 else .non := by
  by_cases c : m = 1
  · rw [if_pos c]
    exact l.uniq (.inr ⟨0, rfl, fun y _ _ _ => by omega, fun j hj _ => by omega⟩)
  · rw [if_neg c]
    refine l.uniq (.inl ⟨rfl, fun k a => ?_⟩)
    have h := a 1 (by omega) (by omega) (eqK_big m0 hp k (by omega) (by omega) (by omega) (by omega))
    omega
theorem lst_scal {St : Nat → Prop} {v : V} (h : Lst St v) : scal v v = true := by
  rcases h with ⟨rfl, _⟩ | ⟨k, rfl, _⟩ <;> rfl
theorem lst_same {St : Nat → Prop} {v : V} {H : Hp} {Q : VK} {E : XK} (h : Lst St v) (q : Q (.bl true) H) : pSame1 v v H Q E := by
  rcases h with ⟨rfl, _⟩ | ⟨k, rfl, _⟩
  · exact .inr ⟨rfl, rfl, q⟩
  · refine .inl ⟨_, _, rfl, rfl, ?_⟩
    rw [decide_eq_true rfl]
    exact q
structure Kp21 (K : PySem.W.Frag) (T : List (Addr × Str)) (r Fm d : Addr) (t p b : Int) (ps : List Addr) (rs : List (List Int)) (H : Hp) : Prop where
  hr : SqT K H r [.int t, .int p, .int b]
  hF : H Fm = some (.lst (ps.map V.ref))
  rw : RowsL H ps rs
  tb : LamX.Tabs T H
theorem Kp21.same {K : PySem.W.Frag} {T : List (Addr × Str)} {r Fm d : Addr} {t p b : Int} {ps : List Addr} {rs : List (List Int)} {H H' : Hp} (k : Kp21 K T r Fm d t p b ps rs H) (s : Same H H') : Kp21 K T r Fm d t p b ps rs H' := ⟨s.tup k.hr, s _ _ k.hF, k.rw.same s, k.tb.ext s⟩
theorem Kp21.ext {K : PySem.W.Frag} {T : List (Addr × Str)} {r Fm d : Addr} {t p b : Int} {ps : List Addr} {rs : List (List Int)} {H H' : Hp} (k : Kp21 K T r Fm d t p b ps rs H) (e : LamX.ExtN H H') (t' : LamX.Tabs T H') : Kp21 K T r Fm d t p b ps rs H' := ⟨extN_sqT e k.hr, e _ _ k.hF (fun _ z => by cases z), k.rw.imp (fun _ _ q => e _ _ q (fun _ z => by cases z)), t'⟩
theorem Kp21.but {K : PySem.W.Frag} {T : List (Addr × Str)} {r Fm d : Addr} {t p b : Int} {ps : List Addr} {rs : List (List Int)} {H H' : Hp} {n : Nat} (k : Kp21 K T r Fm d t p b ps rs H) (nF : Fm ≠ d) (np : ∀ a ∈ ps, a ≠ d) (D : DeckB H d n) (B : But d H H') : Kp21 K T r Fm d t p b ps rs H' := ⟨B.tupB D k.hr, B _ _ nF k.hF, k.rw.off (fun _ _ n e => B _ _ n e) np, tabs_but k.tb D B⟩
def spLaw21 (K : PySem.W.Frag) (T : List (Addr × Str)) : Sp := sp1 fun a H Q _ => ∃ (sa : Addr) (xs : List Int), a = .ref sa ∧ SqL K H sa (xs.map V.int) ∧ xs.length ≤ 63 ∧ (∀ z ∈ xs, Builtin.Int.intBits z ≤ 1048576) ∧ LamX.Tabs T H ∧ ∀ H', Q (.bl true) H'
section
variable {P : Program} {w : World} {K : PySem.W.Frag} {mg : Str → Option Value} {base : Heap}
theorem ok_law {CN fL : Addr} {fdL : FuncData} {T : List (Addr × Str)} (F : Fun K "law" "law" s_law fL fdL) (h_deck : Has P w K mg base CX0 1 "_law_deck" ["script"] (sp1 (pDeckB K))) (h_draw : Has P w K mg base CX0 1 "_law_draw" ["deck", "most"] (sp2 (pDrB 1))) (h_rule : Has P w K mg base CX0 3 "_law_rule" ["deck", "most"] (sp2 pRuleB)) (h_part : Has P w K mg base CX0 2 "_law_part" ["deck", "bound"] (sp2 pPart))
    (h_marks : Has P w K mg base CX0 1 "_law_marks" ["rule", "part"] (sp2 (pMarks K))) (h_settled : Has P w K mg base CX0 1 "_law_settled" ["marks", "start"] (sp2 pSet21)) (h_all_settled : Has P w K mg base CX0 1 "_law_all_settled" ["marks", "bound"] (sp2 pAll21)) (h_by_parts : Has P w K mg base CX0 2 "_law_by_parts" ["rule", "start", "part"] (sp3 (pBy21 K)))
    (h_same : Has P w K mg base CX0 2 "_law_same" ["found", "due"] (sp2 pSame1)) (h_refused : Has P w K mg base CX0 8 "_law_refused" ["deck", "rule", "part"] (sp3 (pRef21 K T)))
    (h_settled_at : Has P w K mg base (L2.CX P w) 7 "settled_at" ["rule", "start", "part"] (sp3 (pSetAt K CN T))) (h_always_settled : Has P w K mg base CX0 7 "always_settled" ["rule", "part"] (sp2 (pAlways K T)))
    (z_range : mg "range" = none) (z_int : mg "int" = none) : FnOk P w K mg base CX0 9 fL fdL ["script"] (spLaw21 K T) := by
  refine F.ok sc_law (fun vs H Q E h => by obtain ⟨_, rfl, _⟩ := h; rfl) (fun cdv A outer s H vs Q E hr h => ?_)
  obtain ⟨v1, rfl, sa, xs, rfl, hS, hl, hb, tb, q⟩ := h
  refine ⟨_, (pss_cons (ps_set (i := 1) sc_law.nd rfl (.inl rfl) (pe_own h_deck (hr.mono (by decide)) pass0 (pa_cons (pv 0) pa_nil)))
 (pss_cons (ps_for PassesOwn.never rfl (pi_range1 (by rfl) z_range (pa_cons pe_int pa_nil)) (pg_name (i := 2) sc_law.nd rfl (.inl rfl)) (pss_cons (ps_set (i := 3) sc_law.nd rfl (.inl rfl) (pe_own h_rule (hr.mono (by decide)) pass0 (pa_cons (pv 1) (pa_cons (pe_ix ix_list (pe_lst (pa_cons pe_int (pa_cons pe_int pa_nil))) (pe_callTy call_int1 (by rfl) z_int (by decide +kernel) (pa_cons (pe_cmpR op_eq (pe_own h_draw (hr.mono (by decide)) pass0 (pa_cons (pv 1) (pa_cons pe_int pa_nil))) pe_int (nomark _)) pa_nil)) (fun _ _ => rfl)) pa_nil))))
 (pss_cons (ps_set (i := 4) sc_law.nd rfl (.inl rfl) (pe_own h_part (hr.mono (by decide)) pass0 (pa_cons (pv 1) (pa_cons (pe_ix ix_tup (pv 3) pe_int (fun _ _ => rfl)) pa_nil))))
 (pss_cons (ps_set (i := 5) sc_law.nd rfl (.inl rfl) (pe_own h_marks (hr.mono (by decide)) pass0 (pa_cons (pv 3) (pa_cons (pv 4) pa_nil))))
 (C8.pss_cut (ps_if (pt_cmpR op_isN (pv 5) pe_non (nomark _)) (pss_cons (ps_set (i := 4) sc_law.nd rfl (.inl rfl) (pe_ix ix_tup (pv 3) pe_int (fun _ _ => rfl)))
 (pss_one (ps_set (i := 5) sc_law.nd rfl (.inl rfl) (pe_own h_marks (hr.mono (by decide)) pass0 (pa_cons (pv 3) (pa_cons (pv 4) pa_nil)))))) pss_nil)
 (pss_cons (ps_if (pt_not (pt_val (pe_own h_same (hr.mono (by decide)) pass0 (pa_cons (pe_own h_always_settled (hr.mono (by decide)) pass0 (pa_cons (pv 3) (pa_cons (pv 4) pa_nil))) (pa_cons (pe_own h_all_settled (hr.mono (by decide)) pass0 (pa_cons (pv 5) (pa_cons (pe_ix ix_tup (pv 3) pe_int (fun _ _ => rfl)) pa_nil))) pa_nil))))) (pss_one (ps_ret pe_bl)) pss_nil)
 (pss_cons (ps_for PassesOwn.never rfl (pi_range1 (by rfl) z_range (pa_cons pe_int pa_nil)) (pg_name (i := 6) sc_law.nd rfl (.inl rfl)) (pss_cons (ps_set (i := 7) sc_law.nd rfl (.inl rfl) (pe_own h_draw (hr.mono (by decide)) pass0 (pa_cons (pv 1) (pa_cons (pe_ix ix_tup (pv 3) pe_int (fun _ _ => rfl)) pa_nil))))
 (pss_cons (ps_set (i := 8) sc_law.nd rfl (.inl rfl) (pe_own h_settled (hr.mono (by decide)) pass0 (pa_cons (pv 5) (pa_cons (pv 7) pa_nil))))
 (C8.pss_cut (ps_if (PW.pt (pw_and (pt_cmpR op_lt (pe_ix ix_tup (pv 3) pe_int (fun _ _ => rfl)) pe_int (nomark _)) (pw_and1 (pt_cmpR op_ne (pv 8) (pe_own h_by_parts (hr.mono (by decide)) pass0 (pa_cons (pv 3) (pa_cons (pv 7) (pa_cons (pv 4) pa_nil)))) (nomark _))))) (pss_one (ps_ret pe_bl)) pss_nil)
 (pss_one (ps_if (pt_not (pt_val (pe_own h_same (hr.mono (by decide)) pass0 (pa_cons (pe_own h_settled_at (hr.mono (by decide)) passL (pa_cons (pv 3) (pa_cons (pv 7) (pa_cons (pv 4) pa_nil)))) (pa_cons (pv 8) pa_nil))))) (pss_one (ps_ret pe_bl)) pss_nil))))))
 (pss_cons (ps_set (i := 9) sc_law.nd rfl (.inl rfl) (pe_ix ix_list (pe_lst (pa_cons pe_non (pa_cons pe_int pa_nil))) (pe_callTy call_int1 (by rfl) z_int (by decide +kernel) (pa_cons (pe_cmpR op_eq (pe_ix ix_tup (pv 3) pe_int (fun _ _ => rfl)) pe_int (nomark _)) pa_nil)) (fun _ _ => rfl)))
 (pss_cons (ps_if (PW.pt (pw_or (pt_cmpR op_ne (pe_own h_always_settled (hr.mono (by decide)) pass0 (pa_cons (pv 3) (pa_cons (pe_op op_pow pe_int pe_int) pa_nil))) (pv 9) (nomark _)) (pw_or1 (pt_cmpR op_ne (pe_own h_settled_at (hr.mono (by decide)) passL (pa_cons (pv 3) (pa_cons pe_int (pa_cons (pe_op op_pow pe_int pe_int) pa_nil)))) (pv 9) (nomark _))))) (pss_one (ps_ret pe_bl)) pss_nil)
 (pss_one (ps_if (pt_not (pt_val (pe_own h_refused (hr.mono (by decide)) pass0 (pa_cons (pv 1) (pa_cons (pv 3) (pa_cons (pv 4) pa_nil)))))) (pss_one (ps_ret pe_bl)) pss_nil)))))))))))
 (pss_one (ps_ret pe_bl)))), ?_⟩
  refine ⟨_, rfl, _, rfl, sa, xs, rfl, hS, hl, hb, fun H1 d s1 nd D1 => ?_⟩
  refine ⟨4, rfl, by decide, by decide, for_range (lo := 0) (n := 4) (fun i σ H' => ∃ (y2 y3 y4 y5 y6 y7 y8 y9 : Option V), σ = [some (.ref sa), some (.ref d), y2, y3, y4, y5, y6, y7, y8, y9] ∧ DeckB H' d (200 * i) ∧ i ≤ 4 ∧ LamX.Tabs T H') ⟨_, _, _, _, _, _, _, _, rfl, D1, by decide, tb.ext s1⟩ ?_ ?_⟩
  · rintro i σ H2 hi ⟨y2, y3, y4, y5, y6, y7, y8, y9, rfl, D2, _, t2⟩
    refine ⟨_, rfl, by show 2 ≤ sizeLine; decide, fun l0 nl0 => ?_⟩
    have sl0 := same_new (o := .lst [.int 60, .int 2000]) nl0
    refine ⟨_, rfl, _, _, rfl, d, 200 * i, 16, rfl, rfl, by decide, by decide, D2.same sl0, by omega, fun H3 x3 B3 D3 x30 x31 => ?_⟩
    refine ⟨rfl, .inr ⟨_, rfl, ?_⟩⟩
    have xb : ∀ c : Bool, 0 ≤ (if c then (1 : Int) else 0) ∧ (if c then (1 : Int) else 0) < 2 := fun c => by cases c <;> decide
    have xb := xb (decide (V.int x3 = V.int 0))
    generalize (if decide (V.int x3 = V.int 0) then (1 : Int) else 0) = z3 at xb
    obtain ⟨ms, hms, ems⟩ := at_ints (ns := [60, 2000]) xb.1 (by show z3 < 2; exact xb.2)
    have bms : ms = 60 ∨ ms = 2000 := by
      simp at hms
      exact hms
    have t3 := tabs_but (t2.ext sl0) (D2.same sl0) B3
    refine ⟨l0, _, z3, _, rfl, rfl, SqL.of (B3 _ _ (D2.ne nl0) upd_same), ems, _, _, rfl, d, 200 * i + 1, ms, rfl, rfl, bms, D3, by omega, fun H4 r t p b B4 D4 nr hr4 R bm => ?_⟩
    have t4 := tabs_but t3 D3 B4
    have b0 := R.pos
    have b2 : b ≤ 2000 := by omega
    refine ⟨_, rfl, _, rfl, r, _, 2, .int b, rfl, rfl, SqT.of hr4, rfl, _, _, rfl, d, 200 * i + 21, b, rfl, rfl, by omega, by omega, D4, by omega, fun H5 pt B5 D5 pt0 pt1 => ?_⟩
    have hr5 := B5 _ _ (D4.ne_tup hr4) hr4
    have t5 := tabs_but t4 D4 B5
    have h5 : SqT K H5 r [.int t, .int p, .int b] := SqT.of hr5
    refine ⟨_, rfl, _, rfl, _, _, rfl, r, t, p, b, pt, rfl, rfl, h5, R, b2, pt0, by omega, fun H6 v6 s6 m6 => ?_⟩
    refine ⟨fun σ' H' => ∃ (pt' : Int) (Fm : Addr) (ps : List Addr) (rs : List (List Int)), σ' = [some (.ref sa), some (.ref d), some (.int (0 + (i : Int))), some (.ref r), some (.int pt'), some (.ref Fm), y6, y7, y8, y9] ∧ 1 ≤ pt' ∧ pt' ≤ 3000 ∧ Same H5 H' ∧ Fm ≠ d ∧ (∀ a ∈ ps, a ≠ d) ∧ H' Fm = some (.lst (ps.map V.ref)) ∧ RowsL H' ps rs ∧ Mks (stp t p b) pt' b rs ∧ (rs.length : Int) ≤ b, ?_, ?_⟩
    · rcases m6 with ⟨rfl, lt⟩ | ⟨Fm, ps, rs, rfl, nF, np, hF, rw_, M, rl⟩
      · refine ⟨_, rfl, rfl, _, rfl, ifT rfl ?_⟩
        refine ⟨_, rfl, r, _, 2, .int b, rfl, rfl, s6.tup h5, rfl, _, rfl, _, rfl, _, _, rfl, r, t, p, b, b, rfl, rfl, s6.tup h5, R, b2, by omega, by omega, fun H7 v7 s7 m7 => ?_⟩
        rcases m7 with ⟨_, lt'⟩ | ⟨Fm, ps, rs, rfl, nF, np, hF, rw_, M, rl⟩
        · omega
        · exact ⟨b, Fm, ps, rs, rfl, by omega, by omega, s6.trans s7, D5.ne (s6.free nF), fun a ha => D5.ne (s6.free (np a ha)), hF, rw_, M, rl⟩
      · refine ⟨_, rfl, rfl, _, rfl, ifF rfl ?_⟩
        exact ⟨pt, Fm, ps, rs, rfl, pt0, by omega, s6, D5.ne nF, fun a ha => D5.ne (np a ha), hF, rw_, M, rl⟩
    rintro σ' H7 ⟨pt', Fm, ps, rs, rfl, q0, q1, s7, nFd, npd, hF, rw_, M, rl⟩
    have k7 : Kp21 K T r Fm d t p b ps rs H7 := ⟨s7.tup h5, hF, rw_, t5.ext s7⟩
    have D7 := D5.same s7
    refine ⟨_, rfl, _, rfl, _, _, rfl, r, t, p, b, pt', rfl, rfl, k7.hr, R, by omega, q0, by omega, k7.tb, fun H8 v8 e8 t8 l8 => ?_⟩
    have k8 := k7.ext e8 t8
    refine ⟨_, rfl, _, rfl, r, _, 2, .int b, rfl, rfl, k8.hr, rfl, _, _, rfl, Fm, ps, rs, t, p, b, pt', rfl, rfl, k8.hF, k8.rw, M, by omega, b0, b2, fun H9 v9 s9 l9 => ?_⟩
    cases l8.uniq l9
    refine ⟨_, _, rfl, lst_same l8 ⟨_, rfl, ifF rfl ?_⟩⟩
    have k9 := k8.same s9
    have D9 := (deck_ext D7 e8).same s9
    refine ⟨3, rfl, by decide, by decide, for_range (lo := 0) (n := 3) (fun j σ H' => ∃ (y6 y7 y8 : Option V), σ = [some (.ref sa), some (.ref d), some (.int (0 + (i : Int))), some (.ref r), some (.int pt'), some (.ref Fm), y6, y7, y8, y9] ∧ Kp21 K T r Fm d t p b ps rs H' ∧ DeckB H' d (200 * i + 30 + 10 * j) ∧ j ≤ 3) ⟨_, _, _, rfl, k9, D9.mono (by omega), by decide⟩ ?_ ?_⟩
    · rintro j σ HA hj ⟨y6, y7, y8, rfl, kA, DA, _⟩
      refine ⟨_, rfl, _, rfl, r, _, 2, .int b, rfl, rfl, kA.hr, rfl, _, _, rfl, d, 200 * i + 30 + 10 * j, b, rfl, rfl, by omega, by omega, DA, by omega, fun HB s BB DB s0 s1' => ?_⟩
      have kB := kA.but nFd npd DA BB
      refine ⟨_, rfl, _, rfl, _, _, rfl, Fm, ps, rs, t, p, b, pt', s, rfl, rfl, kB.hF, kB.rw, M, by omega, s0, s1', fun v lv => ?_⟩
      refine ⟨fun σ' H' => σ' = [some (.ref sa), some (.ref d), some (.int (0 + (i : Int))), some (.ref r), some (.int pt'), some (.ref Fm), some (.int (0 + (j : Int))), some (.int s), some v, y9] ∧ Same HB H', ?_, ?_⟩
      · refine ⟨_, rfl, r, _, 2, .int b, rfl, rfl, kB.hr, rfl, _, _, rfl, rfl, _, rfl, ifD (fun lt => ?_) (fun _ => ?_)⟩
        · refine ⟨_, rfl, _, rfl, _, rfl, _, rfl, _, _, _, rfl, r, t, p, b, s, pt', rfl, rfl, rfl, kB.hr, R, by omega, s0, s1', q0, by omega, M.stb rl, fun HC u sC lu => ?_⟩
          cases lv.uniq lu
          exact ⟨lst_scal lv, _, rfl, ifN (fun ne => absurd rfl ne) (fun _ => ⟨rfl, sC⟩)⟩
        · exact ifF rfl ⟨rfl, fun _ _ z => z⟩
      rintro σ' HC ⟨rfl, sC⟩
      have kC := kB.same sC
      refine ⟨_, rfl, _, rfl, _, rfl, _, _, _, rfl, r, t, p, b, s, pt', rfl, rfl, rfl, kC.hr, R, by omega, q0, by omega, kC.tb, fun _ _ HD u eD tD lu => ?_, fun z => absurd ⟨s0, s1'⟩ z⟩
      cases lu.uniq lv
      refine ⟨_, rfl, _, _, rfl, lst_same lu ⟨_, rfl, ifF rfl ?_⟩⟩
      exact ⟨_, _, _, rfl, kC.ext eD tD, (deck_ext (DB.same sC) eD).mono (by omega), by omega⟩
    rintro σ HA ⟨y6, y7, y8, rfl, kA, DA, _⟩
    have DA : DeckB HA d (200 * i + 30 + 10 * 3) := DA
    refine ⟨by show 2 ≤ sizeLine; decide, fun ln nln => ?_⟩
    have sn := same_new (o := .lst [.non, .int 0]) nln
    have kN := kA.same sn
    have DN := DA.same sn
    have hn : (upd HA ln (.lst [.non, .int 0])) ln = some (.lst [.non, .int 0]) := upd_same
    generalize upd HA ln (.lst [.non, .int 0]) = HN at kN DN hn
    have av : atI [V.non, V.int 0] (if decide (V.int b = V.int 1) = true then 1 else 0) = some (if b = 1 then V.int 0 else V.non) := by
      by_cases c : b = 1
      · rw [if_pos c, if_pos (decide_eq_true (by rw [c]))]
        rfl
      · rw [if_neg c, if_neg (by rw [decide_eq_false (fun z => c (by injection z))]; decide)]
        rfl
    refine ⟨_, rfl, r, _, 2, .int b, rfl, rfl, kN.hr, rfl, rfl, .inr ⟨_, rfl, ln, _, _, _, rfl, rfl, SqL.of hn, av, ?_⟩⟩
    have z12 : (10 : Int) ^ (12 : Int).toNat = 1000000000000 := by decide
    have big : b ≤ (10 : Int) ^ (12 : Int).toNat := by rw [z12]; omega
    refine ⟨_, rfl, _, _, rfl, rfl, ⟨by decide, by decide, by decide⟩, _, _, rfl, r, t, p, b, (10 : Int) ^ (12 : Int).toNat, rfl, rfl, kN.hr, R, by omega, by rw [z12]; decide, by rw [z12]; decide, kN.tb, fun HO v e1 t1 l1 => ?_⟩
    have kO := kN.ext e1 t1
    cases apar_big b0 big l1
    refine ⟨_, rfl, lst_scal l1, _, rfl, ifN (fun ne => absurd rfl ne) (fun _ => ?_)⟩
    refine ⟨_, rfl, _, _, rfl, rfl, ⟨by decide, by decide, by decide⟩, _, _, _, rfl, r, t, p, b, 0, (10 : Int) ^ (12 : Int).toNat, rfl, rfl, rfl, kO.hr, R, by omega, by rw [z12]; decide, by rw [z12]; decide, kO.tb, fun _ _ HP v' e2 t2' l2 => ?_, fun z => absurd (show (0 : Int) ≤ 0 ∧ (0 : Int) < b from ⟨by decide, b0⟩) z⟩
    have kP := kO.ext e2 t2'
    cases alone_big b0 big l2
    refine ⟨_, rfl, lst_scal l2, _, rfl, ifN (fun ne => absurd rfl ne) (fun _ => ?_)⟩
    have DP := deck_ext (deck_ext DN e1) e2
    refine ⟨_, rfl, _, rfl, _, rfl, _, _, _, rfl, d, r, _, t, p, b, pt', rfl, rfl, rfl, kP.hr, R, b2, q0, by omega, kP.tb, DP, by omega, fun HQ BQ DQ tQ => ⟨_, rfl, ifF rfl ?_⟩⟩
    exact ⟨_, _, _, _, _, _, _, _, rfl, DQ.mono (by omega), by omega, tQ⟩
  · rintro σ H' ⟨y2, y3, y4, y5, y6, y7, y8, y9, rfl, D2, _⟩
    exact q _
end
end Tw


namespace Tw
open PySem PySem.Spec PyProof.Rows L2

def fnK : List He.DefD := [dOf "is_whole" s_is_whole,
  dOf "is_number" s_is_number,
  dOf "check_number" s_check_number,
  dOf "next_of" s_next_of,
  dOf "settled_at" s_settled_at,
  dOf "always_settled" s_always_settled,
  dOf "least_parts" s_least_parts,
  dOf "how_many" s_how_many,
  dOf "by_one_part_more" s_by_one_part_more,
  dOf "_law_deck" s_deck,
  dOf "_law_draw" s_draw,
  dOf "_law_below" s_below,
  dOf "_law_rule" s_rule,
  dOf "_law_row" s_row,
  dOf "_law_part" s_part,
  dOf "_law_same" s_same,
  dOf "_law_is_number" s_lis_number,
  dOf "_law_none" s_none,
  dOf "_law_marks" s_marks,
  dOf "_law_settled" s_settled,
  dOf "_law_all_settled" s_all_settled,
  dOf "_law_by_parts" s_by_parts,
  dOf "_law_refused" s_refused,
  dOf "law" s_law,
  mOf "NoNumber" "__init__" "NoNumber.__init__" s_init]
def faK0 : List He.Fa := [.glo "is_whole", .glo "is_number", .glo "check_number", .glo "next_of", .glo "settled_at", .glo "always_settled", .glo "least_parts", .glo "how_many", .glo "by_one_part_more", .glo "_law_deck", .glo "_law_draw", .glo "_law_below", .glo "_law_rule", .glo "_law_row", .glo "_law_part", .glo "_law_same", .glo "_law_is_number", .glo "_law_none", .glo "_law_marks", .glo "_law_settled", .glo "_law_all_settled", .glo "_law_by_parts", .glo "_law_refused", .glo "law", .free "max", .free "len", .free "range", .free "isinstance", .free "int", .free "bool"]
def faK1 : List He.Fa := [.free "tuple", .free "enumerate", .free "abs", .free "str", .free "zip", .free "list", .free "set", .free "ValueError", .glo "RowError", .glo "NoRule", .glo "NoBack", .glo "NoFit", .glo "NoAsk", .glo "NoNumber", .meth "NoNumber" "__init__", .noat "NoNumber" "number"]
def faK : List He.Fa := faK0 ++ faK1
def tfK : List He.Defn := [("settled_at", none), ("always_settled", none)]
def exK (K : Fr) : Bool := numB K && (decide ((He.cT K ("settled_at", none)).2 ≠ (He.cT K ("always_settled", none)).2) && (kitN K "NoNumber" false false false true false && (exmB K "NoNumber" "RowError")))
abbrev hk : PySem.W.Hook := hookK 5 faK fnK tfK exK
def ob (s : PySem.W.SharedT) : AlK := obsK 5 faK fnK tfK exK (HandSHeadRun.getT s)
theorem ob_eq (s : PySem.W.SharedT) : ob s = hk.obs s.abs := obsK_eq (HandSHeadRun.getT_eq s)
abbrev Rw : PySem.W.OpenRow := PySem.W.OpenLaw.row PySem.Challenge.rw_timesrow_k21_settled
def names0 : List Str := ["RowError", "NoRule", "NoBack", "NoFit", "NoAsk", "NoNumber", "is_whole", "is_number", "check_number", "next_of", "settled_at", "always_settled", "least_parts", "how_many", "by_one_part_more", "_law_deck", "_law_draw", "_law_below", "_law_rule", "_law_row", "_law_part", "_law_same", "_law_is_number", "_law_none", "_law_marks", "_law_settled", "_law_all_settled", "_law_by_parts", "_law_refused"]
def namesK : List Str := names0
set_option maxHeartbeats 0 in
theorem run (w : World) : HandSHeadRun.RunEq Rw (PySem.W.view Rw.prog [34]) hk ob 4000 namesK w := by
  intro os
  kernel_rfl
theorem factsK {w : World} {K : Fr} {h : Heap} {mg : Str → Option Value} {f : Addr} (X : K.In h) (G : h.Ns mainGlobals mg) (hfa : mg ("law" : Str) = some (.ref f)) (c : SaysK faK fnK tfK exK h K) : LamX.LawAtS PySem.Challenge.rw_timesrow_k21_settled w K CX0 9 63 "script" mg f h := by
  have T_is_whole : Top K mg "is_whole" s_is_whole ["thing"] := top_of X G (c.d.def_ 0 (d := dOf "is_whole" s_is_whole) rfl) (c.d.fact 0 (f := .glo "is_whole") rfl) fun _ _ _ _ _ _ us hl => match us, hl with | [_], _ => rfl
  have T_is_number : Top K mg "is_number" s_is_number ["thing", "bound"] := top_of X G (c.d.def_ 1 (d := dOf "is_number" s_is_number) rfl) (c.d.fact 1 (f := .glo "is_number") rfl) fun _ _ _ _ _ _ us hl => match us, hl with | [_, _], _ => rfl
  have T_check_number : Top K mg "check_number" s_check_number ["number", "bound"] := top_of X G (c.d.def_ 2 (d := dOf "check_number" s_check_number) rfl) (c.d.fact 2 (f := .glo "check_number") rfl) fun _ _ _ _ _ _ us hl => match us, hl with | [_, _], _ => rfl
  have T_next_of : Top K mg "next_of" s_next_of ["rule", "number"] := top_of X G (c.d.def_ 3 (d := dOf "next_of" s_next_of) rfl) (c.d.fact 3 (f := .glo "next_of") rfl) fun _ _ _ _ _ _ us hl => match us, hl with | [_, _], _ => rfl
  have T_settled_at : TopC K mg "settled_at" s_settled_at ["rule", "start", "part"] (He.cT K ("settled_at", none)).1 := topC_of X G (c.d.def_ 4 (d := dOf "settled_at" s_settled_at) rfl) (c.d.fact 4 (f := .glo "settled_at") rfl) fun _ _ _ _ _ _ us hl => match us, hl with | [_, _, _], _ => rfl
  have T_always_settled : TopC K mg "always_settled" s_always_settled ["rule", "part"] (He.cT K ("always_settled", none)).1 := topC_of X G (c.d.def_ 5 (d := dOf "always_settled" s_always_settled) rfl) (c.d.fact 5 (f := .glo "always_settled") rfl) fun _ _ _ _ _ _ us hl => match us, hl with | [_, _], _ => rfl
  have T_least_parts : Top K mg "least_parts" s_least_parts ["rule", "part", "is_settled"] := top_of X G (c.d.def_ 6 (d := dOf "least_parts" s_least_parts) rfl) (c.d.fact 6 (f := .glo "least_parts") rfl) fun _ _ _ _ _ _ us hl => match us, hl with | [_, _, _], _ => rfl
  have T_how_many : Top K mg "how_many" s_how_many ["classes"] := top_of X G (c.d.def_ 7 (d := dOf "how_many" s_how_many) rfl) (c.d.fact 7 (f := .glo "how_many") rfl) fun _ _ _ _ _ _ us hl => match us, hl with | [_], _ => rfl
  have T_by_one_part_more : Top K mg "by_one_part_more" s_by_one_part_more ["classes", "leads_to", "part"] := top_of X G (c.d.def_ 8 (d := dOf "by_one_part_more" s_by_one_part_more) rfl) (c.d.fact 8 (f := .glo "by_one_part_more") rfl) fun _ _ _ _ _ _ us hl => match us, hl with | [_, _, _], _ => rfl
  have T_deck : Top K mg "_law_deck" s_deck ["script"] := top_of X G (c.d.def_ 9 (d := dOf "_law_deck" s_deck) rfl) (c.d.fact 9 (f := .glo "_law_deck") rfl) fun _ _ _ _ _ _ us hl => match us, hl with | [_], _ => rfl
  have T_draw : Top K mg "_law_draw" s_draw ["deck", "most"] := top_of X G (c.d.def_ 10 (d := dOf "_law_draw" s_draw) rfl) (c.d.fact 10 (f := .glo "_law_draw") rfl) fun _ _ _ _ _ _ us hl => match us, hl with | [_, _], _ => rfl
  have T_below : Top K mg "_law_below" s_below ["deck", "most"] := top_of X G (c.d.def_ 11 (d := dOf "_law_below" s_below) rfl) (c.d.fact 11 (f := .glo "_law_below") rfl) fun _ _ _ _ _ _ us hl => match us, hl with | [_, _], _ => rfl
  have T_rule : Top K mg "_law_rule" s_rule ["deck", "most"] := top_of X G (c.d.def_ 12 (d := dOf "_law_rule" s_rule) rfl) (c.d.fact 12 (f := .glo "_law_rule") rfl) fun _ _ _ _ _ _ us hl => match us, hl with | [_, _], _ => rfl
  have T_row : Top K mg "_law_row" s_row ["rule", "start", "many"] := top_of X G (c.d.def_ 13 (d := dOf "_law_row" s_row) rfl) (c.d.fact 13 (f := .glo "_law_row") rfl) fun _ _ _ _ _ _ us hl => match us, hl with | [_, _, _], _ => rfl
  have T_part : Top K mg "_law_part" s_part ["deck", "bound"] := top_of X G (c.d.def_ 14 (d := dOf "_law_part" s_part) rfl) (c.d.fact 14 (f := .glo "_law_part") rfl) fun _ _ _ _ _ _ us hl => match us, hl with | [_, _], _ => rfl
  have T_same : Top K mg "_law_same" s_same ["found", "due"] := top_of X G (c.d.def_ 15 (d := dOf "_law_same" s_same) rfl) (c.d.fact 15 (f := .glo "_law_same") rfl) fun _ _ _ _ _ _ us hl => match us, hl with | [_, _], _ => rfl
  have T_lis_number : Top K mg "_law_is_number" s_lis_number ["caught", "number"] := top_of X G (c.d.def_ 16 (d := dOf "_law_is_number" s_lis_number) rfl) (c.d.fact 16 (f := .glo "_law_is_number") rfl) fun _ _ _ _ _ _ us hl => match us, hl with | [_, _], _ => rfl
  have T_none : Top K mg "_law_none" s_none ["deck", "bound"] := top_of X G (c.d.def_ 17 (d := dOf "_law_none" s_none) rfl) (c.d.fact 17 (f := .glo "_law_none") rfl) fun _ _ _ _ _ _ us hl => match us, hl with | [_, _], _ => rfl
  have T_marks : Top K mg "_law_marks" s_marks ["rule", "part"] := top_of X G (c.d.def_ 18 (d := dOf "_law_marks" s_marks) rfl) (c.d.fact 18 (f := .glo "_law_marks") rfl) fun _ _ _ _ _ _ us hl => match us, hl with | [_, _], _ => rfl
  have T_settled : Top K mg "_law_settled" s_settled ["marks", "start"] := top_of X G (c.d.def_ 19 (d := dOf "_law_settled" s_settled) rfl) (c.d.fact 19 (f := .glo "_law_settled") rfl) fun _ _ _ _ _ _ us hl => match us, hl with | [_, _], _ => rfl
  have T_all_settled : Top K mg "_law_all_settled" s_all_settled ["marks", "bound"] := top_of X G (c.d.def_ 20 (d := dOf "_law_all_settled" s_all_settled) rfl) (c.d.fact 20 (f := .glo "_law_all_settled") rfl) fun _ _ _ _ _ _ us hl => match us, hl with | [_, _], _ => rfl
  have T_by_parts : Top K mg "_law_by_parts" s_by_parts ["rule", "start", "part"] := top_of X G (c.d.def_ 21 (d := dOf "_law_by_parts" s_by_parts) rfl) (c.d.fact 21 (f := .glo "_law_by_parts") rfl) fun _ _ _ _ _ _ us hl => match us, hl with | [_, _, _], _ => rfl
  have T_refused : Top K mg "_law_refused" s_refused ["deck", "rule", "part"] := top_of X G (c.d.def_ 22 (d := dOf "_law_refused" s_refused) rfl) (c.d.fact 22 (f := .glo "_law_refused") rfl) fun _ _ _ _ _ _ us hl => match us, hl with | [_, _, _], _ => rfl
  have z_max := He.free_ok X G (c.d.fact 24 (f := .free "max") rfl)
  have z_len := He.free_ok X G (c.d.fact 25 (f := .free "len") rfl)
  have z_range := He.free_ok X G (c.d.fact 26 (f := .free "range") rfl)
  have z_isinstance := He.free_ok X G (c.d.fact 27 (f := .free "isinstance") rfl)
  have z_int := He.free_ok X G (c.d.fact 28 (f := .free "int") rfl)
  have z_bool := He.free_ok X G (c.d.fact 29 (f := .free "bool") rfl)
  have z_tuple := He.free_ok X G (c.d.fact 30 (f := .free "tuple") rfl)
  have z_enumerate := He.free_ok X G (c.d.fact 31 (f := .free "enumerate") rfl)
  have z_abs := He.free_ok X G (c.d.fact 32 (f := .free "abs") rfl)
  have z_str := He.free_ok X G (c.d.fact 33 (f := .free "str") rfl)
  have z_zip := He.free_ok X G (c.d.fact 34 (f := .free "zip") rfl)
  have z_list := He.free_ok X G (c.d.fact 35 (f := .free "list") rfl)
  have z_set := He.free_ok X G (c.d.fact 36 (f := .free "set") rfl)
  have z_ValueError := He.free_ok X G (c.d.fact 37 (f := .free "ValueError") rfl)
  have G_CR := He.glo_ok X G (c.d.fact 38 (f := .glo "RowError") rfl)
  have G_CU := He.glo_ok X G (c.d.fact 39 (f := .glo "NoRule") rfl)
  have G_CB := He.glo_ok X G (c.d.fact 40 (f := .glo "NoBack") rfl)
  have G_CF := He.glo_ok X G (c.d.fact 41 (f := .glo "NoFit") rfl)
  have G_CA := He.glo_ok X G (c.d.fact 42 (f := .glo "NoAsk") rfl)
  have G_CN := He.glo_ok X G (c.d.fact 43 (f := .glo "NoNumber") rfl)
  obtain ⟨iI, tI0, _⟩ := He.meth_ok (c.d.fact 44 (f := .meth "NoNumber" "__init__") rfl)
  have tI := beq_iff_eq.mp tI0
  have nf : PySem.W.findIn K (.ref (He.ga K "NoNumber")) "number" = some none := He.noat_ok (c.d.fact 45 (f := .noat "NoNumber" "number") rfl)
  obtain ⟨fdI, FI0⟩ := c.d.def_ 24 (d := mOf "NoNumber" "__init__" "NoNumber.__init__" s_init) rfl
  have FI := fun_of (x := "__init__") (q := "NoNumber.__init__") (st := s_init) FI0
  have bI := FI.binds (ps := ["self", "number"]) fun _ _ _ _ _ _ us hl => match us, hl with | [_, _], _ => rfl
  have ex0 := c.more
  obtain ⟨e0, ex0⟩ := He.ba ex0
  obtain ⟨e1, ex0⟩ := He.ba ex0
  obtain ⟨e2, ex0⟩ := He.ba ex0
  have e3 := ex0
  obtain ⟨ox0, rd0⟩ := He.ba e0
  have ox := oexB_ok ox0
  obtain ⟨RI, ri⟩ := rdB_ok rd0
  obtain ⟨fdL, FL0⟩ := c.d.def_ 23 (d := dOf "law" s_law) rfl
  have FL := fun_of (x := "law") (q := "law") (st := s_law) FL0
  have eL := hfa.symm.trans (He.glo_ok X G (c.d.fact 23 (f := .glo "law") rfl))
  cases eL
  have bL := FunD.bindsA (ps := ["script"]) (K := K) (x := "law") (qual := "law") (params := defArgs s_law) (body := defBody s_law) (scope := defScope s_law) (kws := []) FL0 fun _ _ _ _ _ _ us hl => match us, hl with | [_], _ => rfl
  refine ⟨fdL, tfK.map (He.cT K), spLaw21 K [((He.cT K ("settled_at", none)).2, Str.ofString "settled_at.<locals>.<lambda>"), ((He.cT K ("always_settled", none)).2, Str.ofString "always_settled.<locals>.<lambda>")], fun p hp => ?_, fun p hp => ?_, fun p hp => ?_, fun s v => bL s [v] rfl, ?_, fun base KB GB TB => ?fn⟩
  · obtain ⟨d, hd, rfl⟩ := List.mem_map.mp hp; exact c.empty d hd
  · obtain ⟨d, hd, rfl⟩ := List.mem_map.mp hp; exact c.out d hd
  · obtain ⟨d, hd, rfl⟩ := List.mem_map.mp hp; exact PySem.W.codeHd_of_K X (c.hd d hd)
  rotate_left
  have TB_settled_at := tabB_of (TB (He.cT K ("settled_at", none)) (List.mem_map.mpr ⟨_, by unfold tfK; simp, rfl⟩))
  have TB_always_settled := tabB_of (TB (He.cT K ("always_settled", none)) (List.mem_map.mpr ⟨_, by unfold tfK; simp, rfl⟩))

  · have TL1 := TB (He.cT K ("settled_at", none)) (List.mem_map.mpr ⟨_, by unfold tfK; simp, rfl⟩)
    have TL2 := TB (He.cT K ("always_settled", none)) (List.mem_map.mpr ⟨_, by unfold tfK; simp, rfl⟩)
    have ne := of_decide_eq_true e1
    have EE : Err K mg _ _ _ _ _ _ := ⟨G_CR, G_CA, G_CB, G_CF, G_CN, G_CU⟩
    have o_whole := ok_is_whole (P := (PySem.Challenge.rw_timesrow_k21_settled).prog) (w := w) (base := base) T_is_whole z_isinstance z_int z_bool
    have o_check := ok_check_number T_check_number (ok_is_number T_is_number o_whole) ox iI tI (ok_init FI G_CR RI ri) bI G_CN nf
    have o_next := ok_next_of T_next_of o_check
    have o_many := ok_how_many (P := (PySem.Challenge.rw_timesrow_k21_settled).prog) (w := w) (base := base) T_how_many z_max
    have o_more := ok_by_one_part_more (P := (PySem.Challenge.rw_timesrow_k21_settled).prog) (w := w) (base := base) T_by_one_part_more z_enumerate z_len
    have G_L := gives_least o_next o_more o_many z_range
    have o_set := ok_settled_at (T := [((He.cT K ("settled_at", none)).2, Str.ofString "settled_at.<locals>.<lambda>"), ((He.cT K ("always_settled", none)).2, Str.ofString "always_settled.<locals>.<lambda>")]) T_settled_at TL1 (.head _) (fun p hp e => by
      cases hp with
      | head => rfl
      | tail _ hp => cases hp with
        | head => exact absurd e.symm ne
        | tail _ hp => cases hp) o_check T_least_parts G_L
    have o_alw := ok_always_settled (T := [((He.cT K ("settled_at", none)).2, Str.ofString "settled_at.<locals>.<lambda>"), ((He.cT K ("always_settled", none)).2, Str.ofString "always_settled.<locals>.<lambda>")]) T_always_settled TL2 (.tail _ (.head _)) (fun p hp e => by
      cases hp with
      | head => exact absurd e ne
      | tail _ hp => cases hp with
        | head => rfl
        | tail _ hp => cases hp) T_least_parts G_L o_many z_len
    have o_draw := ok_draw (P := (PySem.Challenge.rw_timesrow_k21_settled).prog) (w := w) (base := base) T_draw
    have o_below := ok_below T_below o_draw
    have o_s1 := ok_same1 (P := (PySem.Challenge.rw_timesrow_k21_settled).prog) (w := w) (base := base) T_same z_isinstance z_int z_bool z_tuple z_str z_len z_zip
    have o_isn := ok_lis_number T_lis_number o_s1 EE (kitB_ok e2) nf z_isinstance z_ValueError
    have o_ref := ok_refused T_refused (ok_none T_none o_draw) o_set o_isn G_CR (of_decide_eq_true e3)
    exact ok_law FL (ok_deck T_deck z_len z_abs) o_draw (ok_rule T_rule o_draw o_below z_max) (ok_part T_part o_draw) (ok_marks T_marks z_list z_range z_len z_set z_zip) (ok_settled T_settled z_len z_range) (ok_all_settled T_all_settled z_len z_range z_set) (ok_by_parts T_by_parts (ok_lrow T_row z_range) z_range) o_s1 o_ref o_set o_alw z_range z_int
  · intro H a ns hl hb hT hS
    refine ⟨_, rfl, a, ns, rfl, hS, hl, hb, fun p hp => ?_, fun _ => rfl⟩
    cases hp with
    | head => exact LamX.TabS.nil (hT _ (List.mem_map.mpr ⟨("settled_at", none), by unfold tfK; simp, rfl⟩))
    | tail _ hp => cases hp with
      | head => exact LamX.TabS.nil (hT _ (List.mem_map.mpr ⟨("always_settled", none), by unfold tfK; simp, rfl⟩))
      | tail _ hp => cases hp
end Tw
open PySem PySem.W PySem.Calls PyProof.Rows
set_option maxHeartbeats 0 in
theorem PySem.Challenge.cw_timesrow_k21_settled_holds : PySem.Challenge.rw_timesrow_k21_settled.Holds := by
  w_on; o_law
  refine HandSHeadRun.head_any (r := OpenLaw.row PySem.Challenge.rw_timesrow_k21_settled) (q := view (OpenLaw.row PySem.Challenge.rw_timesrow_k21_settled).prog [34]) (H := Tw.hk) (ob := Tw.ob) (M := 4000) (loose := Tw.namesK) (d := HandSHeadRun.topDef (OpenLaw.row PySem.Challenge.rw_timesrow_k21_settled).prog 34) (kwd := []) Tw.ob_eq
    (by kernel_rfl) (fun s => by kernel_rfl) Tw.run (by kernel_rfl) (by kernel_rfl) (by kernel_rfl) (by rfl) (by first | assumption | decide +kernel) (by decide +kernel) ⟨rfl, rfl, rfl, rfl, rfl, by decide +kernel⟩ ?hw ?hc
  case hw => w_witness2
  case hc =>
    refine LamX.walk_ofTsE (l := PySem.Challenge.rw_timesrow_k21_settled) (n := 63) (k := 9) (x := "script") (CX := fun _ => L2.CX0) rfl (by decide) (by kernel_rfl) ⟨rfl, by decide, by decide⟩ ?F (fun _ _ _ _ _ z => z)
    intro w mg fa h Y G hmg0
    obtain ⟨K, KX, c⟩ := Y
    have hmg : mg ("law" : PySem.Str) = some (.ref fa) := by
      have e : (HandSHeadRun.topDef (OpenLaw.row PySem.Challenge.rw_timesrow_k21_settled).prog 34).name = ("law" : PySem.Str) := by kernel_rfl
      rw [← e]
      exact hmg0
    exact ⟨K, KX, Tw.factsK KX G hmg c⟩

