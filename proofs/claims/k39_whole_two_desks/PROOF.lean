import PyProof.Rows.All
import Wide.All
import OpenK.AllK
import Wide.FinOn
import PyProof.EqAt
import PyProof.EqKinds
import PyProof.TupleCall
import KE.KExcIs
import HandS.ForMost
import HandS.ForExc
import HandS.ExcInit
import HandS.ExcField
import HandS.IsInst
import HandS.ClsMeth
import HandS.Wide
import HandS.SetFor
import HandS.Codes
import KE.GoesMore
import HandS.Walk
import HandS.Style
import HandS.Set
import HandS.Strs
import HandS.SortInts
import HandS.DictTup
import HandS.ListItems
import HandS.Conv
import HandS.NoneIn
import HandS.TupMul
import HandS.WideBits
import HandS.TupAny
import KE.KExcStr
import HandS.ExcValue
import HandS.Iter
import HandS.MakeKw
import HandS.MakeKwOnly
import HandS.Comp
import HandS.AnyAll
import HandS.GenOver
import HandS.Nested
import HandS.Text
import HandS.FStr
import PyProof.Rows.SumAny
import PyProof.WalksMore
import HandS.TupLen
import PyProof.MinMaxWalk
import HandS.Flow
import HandS.TryOnly
import KE.KNestM
import HandS.Defaults
import HandS.Head0
import HandS.Head1
import HandS.Head2
import HandS.HeadHook1
import HandS.HeadHook2
import HandS.HeadHook3
import HandS.HeadHook4
import HandS.EndTab
import HandS.HeadWalk
import HandS.More
import HandS.CallLocal
import KE.KxText
import PySem.Challenge.RW_timesrow_k39_whole_two_desks
set_option Elab.async false
set_option linter.all false
set_option maxRecDepth 100000
set_option maxHeartbeats 4000000
/-! Own rules over the hand layer: a caught exception kept as a value, its class asked, its field read; the base's own initialiser reached through an own class; products and quotients by plain bounds. -/
namespace Tw
open PySem PySem.Spec PyProof.Rows L2

/-! ### an exception held as a value -/
def exv (a : Addr) (cls : Value) (d : Option Addr) : HO := .ext fun h => ∃ (oe : Obj) (vs : Array Value), h.get? a = some oe ∧ Zc cls d oe ∧ oe.data = .fields vs
theorem exv_ok {P : Program} {w : World} {H : Hp} {h : Heap} {a : Addr} {cls : Value} {d : Option Addr} {oe : Obj} {vs : Array Value} (he : h.get? a = some oe) (hz : Zc cls d oe) (hd : oe.data = .fields vs) : ObjOk P w H h a (exv a cls d) :=
  ⟨⟨oe, vs, he, hz, hd⟩, ⟨oe, he⟩, fun _ _ z k => by
    obtain ⟨o, v, e, q⟩ := z
    exact ⟨o, v, k _ e, q⟩⟩
theorem exv_at {P : Program} {w : World} {H : Hp} {h : Heap} {a : Addr} {cls : Value} {d : Option Addr} (hok : HOk P w H h) (he : H a = some (exv a cls d)) : ∃ (oe : Obj) (vs : Array Value), h.get? a = some oe ∧ Zc cls d oe ∧ oe.data = .fields vs := by
  have x : ObjOk P w H h a (.ext fun h => ∃ (oe : Obj) (vs : Array Value), h.get? a = some oe ∧ Zc cls d oe ∧ oe.data = .fields vs) := hok a _ he
  exact x.1
section
variable {X : Cx} {pins : List (Addr × Obj)} {σ : L2.St} {H : Hp} {s : Shared}
/-- an object of ours that was not tracked is tracked from here on -/
theorem track {a : Addr} {o : HO} (I : Inv X pins σ H s) (na : H a = none) (h0 : ∀ ob, X.s_0.heap.get? a = some ob → X.H_0 a = none → a ∉ X.ex → False) (hL : a ≠ X.env.locals)
    (hc : ∀ x c, X.env.cells.lookup x = some c → c ≠ a) (hp : ∀ p ∈ X.pn ++ pins, p.1 ≠ a) (new : ObjOk X.prog X.w (upd H a o) s.heap a o) : Inv X pins σ (upd H a o) s := by
  have ne : ∀ {b : Addr} {u : HO}, H b = some u → b ≠ a := fun {b u} e => ne_of_none e na
  refine ⟨I.ok, I.os, I.bare, ⟨I.base.keep, I.base.slot, fun b ob e n hx => ?_, I.base.there, fun b xs e => ?_, fun b ob u e => ?_, fun b ps e => ?_⟩, I.loc, I.cell, ?_, fun x c e => ?_, fun p q => ?_, fun b u e => ?_, I.len⟩
  · have nb : b ≠ a := fun z => h0 ob (z ▸ e) (z ▸ n) (z ▸ hx)
    rw [upd_ne nb]
    exact I.base.free b ob e n hx
  · have q := I.base.tups b xs e
    rw [upd_ne (ne q)]
    exact q
  · have q := I.base.frzs b ob u e
    rw [upd_ne (ne q)]
    exact q
  · obtain ⟨more, q⟩ := I.base.tbls b ps e
    exact ⟨more, by rw [upd_ne (ne q)]; exact q⟩
  · rw [upd_ne (Ne.symm hL)]
    exact I.free
  · rw [upd_ne (hc x c e)]
    exact I.freeC x c e
  · obtain ⟨e, n, l, f, d⟩ := I.pin p q
    exact ⟨e, by rw [upd_ne (hp p q)]; exact n, l, f, d⟩
  · by_cases hb : b = a
    · subst hb
      rw [upd_same] at e
      cases e
      exact new
    · rw [upd_ne hb] at e
      exact (I.hok b u e).stay (fun _ _ _ q => q) (fun c q => by rw [upd_ne (ne q)]; exact q) (fun c xs q => by rw [upd_ne (ne q)]; exact q)
/-- into an except suite and out of it: nothing more is pinned there than was before -/
theorem toSuite (I : Inv X pins σ H s) (a : Addr) : Inv (X.suite a (X.pn ++ pins)) [] σ H s :=
  { ok := I.ok.suite _ _, os := I.os, bare := I.bare, base := I.base, loc := I.loc, cell := I.cell, free := I.free, freeC := I.freeC, hok := I.hok, len := I.len
    pin := fun p hp => I.pin p ((List.append_nil (X.pn ++ pins)) ▸ hp) }
theorem ofSuite {a : Addr} {more : List (Addr × Obj)} (I : Inv (X.suite a (X.pn ++ pins)) more σ H s) (ok : X.Ok) : Inv X pins σ H s :=
  { ok := ok, os := I.os, bare := I.bare, base := I.base, loc := I.loc, cell := I.cell, free := I.free, freeC := I.freeC, hok := I.hok, len := I.len
    pin := fun p hp => I.pin p (List.mem_append_left more hp) }
/-- no frame is a record -/
theorem rec_noframe {h B : Heap} {l : List Env} {a : Addr} {o : Obj} {vs : Array Value} (ff : h.FunFrames B l) (e : h.get? a = some o) (dd : o.data = .fields vs) : a ∉ frs l := fun hm => by
  obtain ⟨_, o2, e2, nf⟩ := ff.mem hm
  have z := Option.some.inj (e.symm.trans e2)
  subst z
  exact nf vs dd
/-- an address that the ground does not know is younger than the def's entry, and is not pinned -/
theorem young {B : Heap} {a : Addr} (J : Inv X pins σ H s) (gr : ∀ b o, s.heap.get? b = some o → b ∉ frs X.stack → B.get? b = some o) (hB : B.get? a = none) (nS : a ∉ frs X.stack) (nF : a ∉ X.fs) :
    (∀ ob, X.s_0.heap.get? a = some ob → X.H_0 a = none → a ∉ X.ex → False) ∧ ∀ p ∈ X.pn ++ pins, p.1 ≠ a := by
  constructor
  · intro ob e n hx
    have z := gr a ob (J.base.keep a ob e n nF hx) nS
    rw [hB] at z
    cases z
  · intro p hp z
    obtain ⟨e, _, l, f, _⟩ := J.pin p hp
    have y := gr p.1 p.2 e (fun hm => (List.mem_cons.mp (J.stkSub p.1 hm)).elim l f)
    rw [z, hB] at y
    cases y
end
/-- what the clause wishes of an exception of the body: the clause takes it; it is held, and stays held behind the suite -/
def wKeep (K : PySem.W.Frag) (c : Value) (i : Nat) (ts : TS) (D : Ends) : WX := fun cls d σ H =>
  PySem.W.exmOne K cls c = some true ∧ ∀ a, H a = none → ts { nx := fun σ1 H1 => D.nx (σ1.set i none) H1, rt := D.rt, bk := fun σ1 H1 => D.bk (σ1.set i none) H1, ct := fun σ1 H1 => D.ct (σ1.set i none) H1 } (σ.set i (some (.ref a))) (upd H a (exv a cls d))
section
variable {X : Cx} {x n : Str} {c : Value} {i : Nat} {body suite : List Stmt} {b0 : Stmt} {np pos pos' : Pos} {tb : WX → TS} {ts : TS}
/-- the clause's name is looked up while the exception is handled -/
theorem clause_name {pins : List (Addr × Obj)} {σ : L2.St} {H : Hp} {s : Shared} {a : Addr} {Q : Value → Shared → Prop} {E : Value → Shared → Prop} (hc : Names X x c) (I : Inv X pins σ H s) (q : Q c s) :
    wpAny (model X.prog X.w) (X.A.mark (some (.ref a))) (eval (.Name x np) X.env) Q E s := by
  have J := toSuite I a
  obtain ⟨g, nd, m | ⟨m, v, nn⟩⟩ := hc
  · exact ld_glob (X := X.suite a (X.pn ++ pins)) J g m q nd
  · exact ld_blt (X := X.suite a (X.pn ++ pins)) J g m v q nn nd
/-- behind the suite: the name goes, and the way goes on as it would -/
theorem suite_done {pins : List (Addr × Obj)} {a : Addr} {D : Ends} {fl : Flow} {s : Shared} (ok : X.Ok) (hN : X.N.Nodup) (hi : X.N[i]? = some n) (hln : X.env.kindOf n = some .local)
    (h : SP (X.suite a (X.pn ++ pins)) [] { nx := fun σ1 H1 => D.nx (σ1.set i none) H1, rt := D.rt, bk := fun σ1 H1 => D.bk (σ1.set i none) H1, ct := fun σ1 H1 => D.ct (σ1.set i none) H1 } fl s) :
    wpAny (model X.prog X.w) X.A (do bindName X.env n .none; unbindBehindTheSuite X.env n pos') (fun _ s7 => SP X pins D fl s7) X.xe s := by
  cases fl with
  | next => obtain ⟨_, _, S, q⟩ := h; exact gone_ok (ofSuite S ok) hN hi hln fun _ J => ⟨_, _, J, q⟩
  | brk => obtain ⟨_, _, S, q⟩ := h; exact gone_ok (ofSuite S ok) hN hi hln fun _ J => ⟨_, _, J, q⟩
  | cont => obtain ⟨_, _, S, q⟩ := h; exact gone_ok (ofSuite S ok) hN hi hln fun _ J => ⟨_, _, J, q⟩
  | ret u => obtain ⟨_, _, _, S, r, q⟩ := h; exact gone_ok (ofSuite S ok) hN hi hln fun _ J => ⟨_, _, _, J, r, q⟩
/-- an exception in the air of the try's body, met by the clause -/
theorem met {pins : List (Addr × Obj)} {xe : Value → Shared → Prop} {D : Ends} {u : Value} {s1 : Shared} (ok : X.Ok) (hs : X.stack = X.env :: X.outer) (hf : X.env.frame = some X.env.locals) (hN : X.N.Nodup) (hi : X.N[i]? = some n) (hln : X.env.kindOf n = some .local) (hc : Names X x c)
    (hsu : ∀ (a : Addr) (pn : List (Addr × Obj)), PSs (X.suite a pn) (b0 :: suite) ts) (air : XE (X.tr (X.pn ++ pins) xe) (wKeep X.K c i ts D) u s1) :
    wpAny (model X.prog X.w) X.A (noteFrame u X.env) (fun _ s2 => wpAny (model X.prog X.w) X.A (setFlight u none) (fun _ s3 =>
      wpAny (model X.prog X.w) X.A (handleBy u X.env [.ExceptHandler (some (.Name x np)) (some n) (b0 :: suite) pos']) (SP X pins D) X.xe s3) X.xe s2) X.xe s1 := by
  obtain ⟨a, B, sI, _, σ1, H1, cls, d, rfl, J0, gr, up, sky, na, os, ag, xm, yes⟩ := air
  have J : Inv X pins σ1 H1 sI := J0.ofTry ok
  have top : X.A.frames = some (X.env :: X.outer) := ok.frames.trans (congrArg some hs)
  have sky1 : Sky B (X.env :: X.outer) a (Zc cls d) X.env.locals s1.heap := hs ▸ sky
  refine Sky.land Zc.steady top hf sky1 fun h3 fly3 up3 => ?_
  have J3 : Inv X pins σ1 H1 { s1 with heap := h3 } := J.landed gr fly3.1 (up.trans up3) os ag
  obtain ⟨oe3, vs3, at3, z3, d3⟩ := fly3.there
  have nfr : a ∉ frs (X.env :: X.outer) := rec_noframe fly3.2.2.1 at3 d3
  have nS : a ∉ frs X.stack := hs ▸ nfr
  have nL : a ≠ X.env.locals := fun z => nfr (List.mem_filterMap.mpr ⟨X.env, List.mem_cons_self, by rw [hf, z]⟩)
  have nF : a ∉ X.fs := fun hm => let ⟨e, he, q⟩ := List.mem_filterMap.mp hm; nfr (List.mem_filterMap.mpr ⟨e, List.mem_cons_of_mem _ he, q⟩)
  have TY : PySem.W.Looks (model X.prog X.w) h3 (typeOf (.ref a)) cls := fun _ _ _ _ k q => wpAny_typeOf_ref (k _ _ at3) (z3.1.symm ▸ q)
  refine wpAny_handleBy_cons (codeAny_handlers_test (clause_name hc J3 ((PySem.W.exm_one (M := model X.prog X.w) J3.kIn TY xm).here ?_))) (fun q => by cases q)
  refine codeAny_handlers_suite_as (HandSPX.lands_againZ fly3 fun h4 fly4 up4 => ?_)
  have J4 : Inv X pins σ1 H1 { s1 with heap := h4 } := J.landed gr fly4.1 ((up.trans up3).trans up4) os ag
  obtain ⟨oe, vs, at4, z4, d4⟩ := fly4.there
  obtain ⟨y1, y2⟩ := young J gr fly4.2.1 nS nF
  have ncell : ∀ y cc, X.env.cells.lookup y = some cc → cc ≠ a := fun y cc e z => by
    obtain ⟨_, oc, hoc, hdc⟩ := J4.cell y cc e
    subst z
    have w1 : oe = oc := Option.some.inj (at4.symm.trans hoc)
    rw [← w1, d4] at hdc
    cases hdc
  have J5 := toSuite (track (o := exv a cls d) J4 na y1 nL ncell y2 (exv_ok at4 z4 d4)) a
  refine store_ok (X := X.suite a (X.pn ++ pins)) (v := .ref a) J5 hN hi (.inl hln) rfl (fun s5 S5 => ?_) (.inr hln)
  exact wpAny_mono ((hsu a (X.pn ++ pins)).run [] s5 _ _ _ S5 (yes a na)) (fun fl s6 h6 => suite_done ok hN hi hln h6) (fun _ _ z => z.elim)
theorem ps_try_keep (hs : X.stack = X.env :: X.outer) (hf : X.env.frame = some X.env.locals) (hN : X.N.Nodup) (hi : X.N[i]? = some n) (hln : X.env.kindOf n = some .local) (hc : Names X x c)
    (hb : ∀ (W : WX) (pn : List (Addr × Obj)) (xe : Value → Shared → Prop), Takes (X.tr pn xe) W → PassesOwn (model X.prog X.w) X.A X.env xe → PSs (X.tr pn xe) body (tb W))
    (hsu : ∀ (a : Addr) (pn : List (Addr × Obj)), PSs (X.suite a pn) (b0 :: suite) ts) :
    PS X (.Try body [.ExceptHandler (some (.Name x np)) (some n) (b0 :: suite) pos'] [] [] pos) (fun D σ H => tb (wKeep X.K c i ts D) D σ H) := by
  refine ⟨fun pins s σ H D I h => wpAny_Try_except ?_⟩
  have ok := I.ok
  refine wpAny_mono ((hb _ (X.pn ++ pins) _ (fun u s1 air => met ok hs hf hN hi hln hc hsu air) PassesOwn.looking).run [] s σ H D (I.toTry _) h) (fun fl s1 r => ?_) (fun _ _ q => q)
  cases fl with
  | next => obtain ⟨_, _, J, q⟩ := r; exact wpAny_execs_nil ⟨_, _, J.ofTry ok, q⟩
  | brk => obtain ⟨_, _, J, q⟩ := r; exact ⟨_, _, J.ofTry ok, q⟩
  | cont => obtain ⟨_, _, J, q⟩ := r; exact ⟨_, _, J.ofTry ok, q⟩
  | ret u => obtain ⟨_, _, _, J, v, q⟩ := r; exact ⟨_, _, _, J.ofTry ok, v, q⟩
end

/-! ### isinstance of a held exception -/
/-- what is asked of an own exception class -/
structure XcC (K : PySem.W.Frag) (D : Addr) : Prop where
  hc : PySem.W.isClsIn K D = true
  hg : PySem.W.findIn K (.ref D) "__getattribute__" = some (some (.builtin "BaseException.__getattribute__"))
  hk : PySem.W.findIn K (.ref D) "__getattr__" = some none
  hs : PySem.W.subIn K (.ref D) (.type "BaseException") = some true
  hd : PySem.W.hasDictIn K D = true
  ha : PySem.W.findIn K (.ref D) "__class__" = some (some (.builtin "object.__class__"))
  hn : PySem.W.specialIn K (.builtin "object.__class__") "__get__" = some (some (.builtin "getset_descriptor.__get__"))
  ht : PySem.W.takesIn K (.builtin "object.__class__") = some true
  hm : PySem.W.mroIn K D (.type "object") = some true
section
variable {X : Cx} {pins : List (Addr × Obj)} {σ : L2.St} {H : Hp} {s : Shared}
/-- a held exception, its dict as the heap tells it -/
def HasD (H : Hp) (d : Option Addr) : Prop := ∀ dx, d = some dx → ∃ fs, H dx = some (.xd fs)
theorem inst_of {a D : Addr} {d : Option Addr} (I : Inv X pins σ H s) (e : H a = some (exv a (.ref D) d)) (hd : HasD H d) : ∃ oe od, PySem.W.InstAt s.heap a oe D od := by
  obtain ⟨oe, vs, he, hz, hv⟩ := exv_at I.hok e
  have nc : PySem.W.notCls oe = true := by unfold PySem.W.notCls; rw [hv] <;> rfl
  cases d with
  | none => exact ⟨oe, none, he, hz.1, nc, by rw [hz.2]; trivial⟩
  | some dx =>
    obtain ⟨fs, ed⟩ := hd dx rfl
    have hx : ObjOk X.prog X.w H s.heap dx (.xd fs) := I.hok dx _ ed
    obtain ⟨mA, hns, hr⟩ := hx
    obtain ⟨od, ho, hl⟩ := lookIn_ns hns
    exact ⟨oe, some od, he, hz.1, nc, by rw [hz.2]; exact ho⟩
end
/-- isinstance(e, c), e a held exception of the class at D -/
def rIsX (K : PySem.W.Frag) : List V → Hp → VK → Prop := fun xs H Q => ∃ (a D : Addr) (d : Option Addr) (c : V) (u : Value) (b : Bool), xs = [.ref a, c] ∧ ClsV c u ∧ H a = some (exv a (.ref D) d) ∧ HasD H d ∧ XcC K D ∧ PySem.W.kitOne K (.ref D) u = some b ∧ Q (.bl b) H
theorem call_isX {X : Cx} : CallR X (.builtin "isinstance") (rIsX X.K) := by
  intro pins s σ H xs us Q I r h
  obtain ⟨a, D, d, c, u, b, rfl, k, ea, hd, T, e, q⟩ := h
  obtain ⟨u1, u2, rfl, r1, r2⟩ := vals2 r
  cases (show u1 = Value.ref a from r1)
  have e2 := k.eq r2
  subst e2
  obtain ⟨oe, od, J⟩ := inst_of I ea hd
  exact PySem.W.kia_one (PySem.W.kitx_exc T.hc T.hg T.hk T.hs T.ha T.hn T.ht T.hm) I.kIn J e (fun z => nomatch z) fun tk => ⟨.bl b, H, I.tok tk, rfl, q⟩
/-- both: a held exception, or anything that the layer knows -/
def rIsA (K : PySem.W.Frag) : List V → Hp → VK → Prop := fun xs H Q => rIsX K xs H Q ∨ rIsi K xs H Q
theorem call_isA {X : Cx} : CallR X (.builtin "isinstance") (rIsA X.K) := by
  intro pins s σ H xs us Q I r h
  rcases h with h | h
  · exact call_isX pins s σ H xs us Q I r h
  · exact call_isi pins s σ H xs us Q I r h

/-! ### a field of a held exception -/
def tXv (K : PySem.W.Frag) (f : Str) (te : TE) : TE := fun σ H Q => te σ H fun x H1 => ∃ (a C dd : Addr) (fs : List (Str × V)) (v : V), x = .ref a ∧ H1 a = some (exv a (.ref C) (some dd)) ∧ XcC K C ∧ PySem.W.findIn K (.ref C) f = some none ∧ H1 dd = some (.xd fs) ∧ fs.lookup f = some v ∧ Q v H1
theorem pe_xv {X : Cx} {e : Expr} {te : TE} {pos : Pos} {n : Str} (he : PE X e te) (hb : attributeBase e n X.env (eval e X.env) = eval e X.env := by rfl) : PE X (.Attribute e n pos) (tXv X.K n te) := by
  refine ⟨fun pins s σ H Q I h => ?_⟩
  refine attr_of hb (thn (he.run pins s σ H _ I h) fun u s1 hh => ?_)
  obtain ⟨x, H1, I1, rx, a, C, dd, fs, v, ex, ea, T, hno, ed, l, q⟩ := hh
  subst ex
  obtain rfl : u = Value.ref a := rx
  obtain ⟨oe, vs, ha, hz, hd⟩ := exv_at I1.hok ea
  have hx : ObjOk X.prog X.w H1 s1.heap dd (.xd fs) := I1.hok dd _ ed
  obtain ⟨mA, hns, hr⟩ := hx
  obtain ⟨od, ho, hl⟩ := lookIn_ns hns
  obtain ⟨u, hu, ru⟩ := RelO.some_of (v := v) (o := mA n) (by rw [← l]; exact hr n)
  have J : PySem.W.InstAt s1.heap a oe C (some od) := ⟨ha, hz.1, by unfold PySem.W.notCls; rw [hd] <;> rfl, by rw [hz.2]; exact ho⟩
  exact HandSPX.exc_get I1.kIn J T.hg T.hk T.hs (PySem.W.findObj_own T.hd hno rfl (by rw [hl, hu])) (handed_of ru) ⟨v, H1, I1.tok _, ru, q⟩

/-! ### B.__init__(self, ..), B an own class over ValueError -/
theorem pe_ownInit {X : Cx} {B : Addr} {mc : Value} {x : Str} {e : Expr} {es : List Expr} {ta : TA} {p1 p2 pos : Pos} {pl : Sem Bool} (hg : Gl X x) (hm : X.mg x = some (.ref B)) (r : ClX.CRead X.K B mc)
    (k : PySem.W.findCls X.K (.ref B) mc "__init__" = some (.val (.builtin "ValueError.__init__"))) (ha : PA X (e :: es) ta)
    (hc : eval (.Call (.Attribute (.Name x p1) "__init__" p2) (e :: es) [] pos) X.env = (do
      let ov ← eval (.Name x p1) X.env
      standAt p2.atName
      let (f, first) ← holding [ov] (getMethod ov "__init__" pl)
      callWith pos f first (backTo pos (starEach (e :: es) X.env)) (backToKw pos (keywordEach [] X.env))) := by rfl)
    (he : starEach (e :: es) X.env = (false, eval e X.env) :: starEach es X.env := by rfl) (hpl : (backTo pos (starEach es X.env)).any (·.1) = false := by rfl) (hdb : (x == ("__debug__" : Str)) = false := by decide) :
    PE X (.Call (.Attribute (.Name x p1) "__init__" p2) (e :: es) [] pos) (tVeI X.K ta) := by
  refine ⟨fun pins s σ H Q I h => ?_⟩
  refine PySem.W.methodCall_KW (ld_glob I hg hm ?_ hdb) hc
  refine PySem.W.method_cls I.kIn r.ga (PySem.W.cls_value I.kIn r.rd k rfl ?_)
  show wpAny _ _ (callWith pos (Value.builtin "ValueError.__init__") [] (backTo pos (starEach (e :: es) X.env)) []) _ _ _
  refine PyProof.Rows.callWith_method1 (thn (ha.run pos pins _ σ H _ (I.tok _) h) fun us s1 ⟨vs, H1, I1, r1, a, C, ws, ev, hl, T, ea, q⟩ => ?_) he hpl
  subst ev
  cases r1 with
  | @cons _ u0 _ ur ra rw' =>
    obtain rfl : u0 = Value.ref a := ra
    have hlen : ur.length ≤ sizeLine := by
      rw [← Paired.length rw', sizeLine_eq]
      omega
    exact oinit_ok T I1 ea hlen fun s' J => ⟨.non, H1, J, rfl, q⟩

/-! ### products and quotients by plain bounds -/
def Big (i : Int) : Prop := -1000000000000000000000000000000000000000000 < i ∧ i < 1000000000000000000000000000000000000000000
theorem Big.abs {i : Int} (h : Big i) : i.natAbs < 2 ^ 140 := by
  obtain ⟨a, b⟩ := h
  have : (2 : Nat) ^ 140 = 1393796574908163946345982392040522594123776 := by decide
  rw [this]
  omega
def CMulB (i j : Int) : Prop := Big i ∧ Big j
def CDivB (_ j : Int) : Prop := 0 < j ∧ j < 1000000000000000000000000000000000000000000
theorem op_mulB {X : Cx} : OpR X (binaryOp .Mult) (rI CMulB fun i j => .int (i * j)) := by
  intro pins s σ H x y u v Q I r1 r2 h
  obtain ⟨i, j, e1, e2, hc, q⟩ := h
  exact op_mulW pins s σ H x y u v Q I r1 r2 ⟨i, j, e1, e2, wide_mul hc.1.abs hc.2.abs (by decide) (by decide) (by decide), q⟩
theorem op_fdivB {X : Cx} : OpR X (binaryOp .FloorDiv) (rI CDivB fun i j => .int (i / j)) := by
  intro pins s σ H x y u v Q I r1 r2 h
  obtain ⟨i, j, e1, e2, hc, q⟩ := h
  have hb : Big j := ⟨by have := hc.1; omega, hc.2⟩
  exact op_fdivW pins s σ H x y u v Q I r1 r2 ⟨i, j, e1, e2, wide_div hc.1 hb.abs (by decide) (by decide), q⟩
end Tw

/-! Short words: a def of the top, its promise, its call; readings. -/
namespace Tw
open PySem PySem.Spec PyProof.Rows L2

/-- a def of the text as the top has left it -/
def Top (K : PySem.W.Frag) (mg : Str → Option Value) (x : Str) (st : Stmt) (ps : List Str) : Prop :=
  ∃ (f : Addr) (fd : FuncData), Fun K x x st f fd ∧ mg x = some (.ref f) ∧ Binds K fd ps []
/-- a def that keeps its promise, ready to be called -/
def Lk (K : PySem.W.Frag) (f : Addr) (fd : FuncData) : Prop := ∃ (oc : Value) (od : Option Addr) (osl : Array (Option Value)), K.lookup f = some ⟨oc, od, .func fd, osl⟩
theorem Lk.eq {K : PySem.W.Frag} {f : Addr} {fd fe : FuncData} (a : Lk K f fd) (b : Lk K f fe) : fd = fe := by
  obtain ⟨oc, od, osl, e⟩ := a
  obtain ⟨oc', od', osl', e'⟩ := b
  rw [e] at e'
  cases e'
  rfl
theorem lk_of {K : PySem.W.Frag} {x q : Str} {st : Stmt} {f : Addr} {fd : FuncData} (F : Fun K x q st f fd) : Lk K f fd := by
  obtain ⟨oc, od, kV, doc, pm, an, cdv, ct, osl, _, lk, _⟩ := F.ex
  exact ⟨oc, od, osl, lk⟩
def Has (P : Program) (w : World) (K : PySem.W.Frag) (mg : Str → Option Value) (base : Heap) (CX : CXT) (k : Nat) (x : Str) (ps : List Str) (sp : Sp) : Prop :=
  ∃ (f : Addr) (fd : FuncData), FnOk P w K mg base CX k f fd ps sp ∧ mg x = some (.ref f) ∧ PySem.W.keepIn K (.ref f) = true ∧ Binds K fd ps [] ∧ Lk K f fd
theorem Has.mono {P : Program} {w : World} {K : PySem.W.Frag} {mg : Str → Option Value} {base : Heap} {CX : CXT} {j k : Nat} {x : Str} {ps : List Str} {sp : Sp} (h : Has P w K mg base CX j x ps sp) (l : j ≤ k) : Has P w K mg base CX k x ps sp := by
  obtain ⟨f, fd, F, g, kp, b, lk⟩ := h
  exact ⟨f, fd, F.mono l, g, kp, b, lk⟩
/-! promises by the number of arguments -/
def sp1 (p : V → Hp → VK → XK → Prop) : Sp := fun vs H Q E => ∃ a, vs = [a] ∧ p a H Q E
def sp2 (p : V → V → Hp → VK → XK → Prop) : Sp := fun vs H Q E => ∃ a b, vs = [a, b] ∧ p a b H Q E
def sp3 (p : V → V → V → Hp → VK → XK → Prop) : Sp := fun vs H Q E => ∃ a b c, vs = [a, b, c] ∧ p a b c H Q E
def sp4 (p : V → V → V → V → Hp → VK → XK → Prop) : Sp := fun vs H Q E => ∃ a b c d, vs = [a, b, c, d] ∧ p a b c d H Q E
section
variable {P : Program} {w : World} {K : PySem.W.Frag} {mg : Str → Option Value} {base : Heap} {x : Str} {st : Stmt} {N : List Str} {k : Nat}
theorem Top.ok {ps : List Str} {sp : Sp} (D : Top K mg x st ps) (S : FnScope N ps (defScope st)) (len : ∀ vs H Q E, sp vs H Q E → vs.length = ps.length)
    (hbody : ∀ (f : Addr) (cdv : Value) (A : Around) (outer : List Env) (s : Shared) (H : Hp) (vs : List V) (Q : VK) (E : XK), Room k (A.deeper (envOfC x (defScope st) s.heap.objs.size f cdv)) → sp vs H Q E →
      ∃ t, PSs (cxOf CX0 P w K mg base N x (defScope st) f cdv A outer s H E).nox (defBody st) t ∧ t { nx := fun _ H' => Q .non H', rt := Q } (start N vs) H) : Has P w K mg base CX0 (k + 1) x ps sp := by
  obtain ⟨f, fd, F, g, b⟩ := D
  exact ⟨f, fd, F.ok S len (fun cdv A outer s H vs Q E hr h => hbody f cdv A outer s H vs Q E hr h), g, F.kp, b, lk_of F⟩
theorem Top.okX {ps : List Str} {sp : Sp} (D : Top K mg x st ps) (S : FnScope N ps (defScope st)) (len : ∀ vs H Q E, sp vs H Q E → vs.length = ps.length)
    (hbody : ∀ (f : Addr) (cdv : Value) (A : Around) (outer : List Env) (s : Shared) (H : Hp) (vs : List V) (Q : VK) (E : XK), Room k (A.deeper (envOfC x (defScope st) s.heap.objs.size f cdv)) → sp vs H Q E →
      ∃ t, PSs (cxOf (L2.CX P w) P w K mg base N x (defScope st) f cdv A outer s H E) (defBody st) t ∧ t { nx := fun _ H' => Q .non H', rt := Q } (start N vs) H) : Has P w K mg base (L2.CX P w) (k + 1) x ps sp := by
  obtain ⟨f, fd, F, g, b⟩ := D
  exact ⟨f, fd, F.okX S len (fun cdv A outer s H vs Q E hr h => hbody f cdv A outer s H vs Q E hr h), g, F.kp, b, lk_of F⟩
theorem Top.ok1 {a : Str} {p : V → Hp → VK → XK → Prop} (D : Top K mg x st [a]) (S : FnScope N [a] (defScope st))
    (hbody : ∀ (f : Addr) (cdv : Value) (A : Around) (outer : List Env) (s : Shared) (H : Hp) (v1 : V) (Q : VK) (E : XK), Room k (A.deeper (envOfC x (defScope st) s.heap.objs.size f cdv)) → p v1 H Q E →
      ∃ t, PSs (cxOf CX0 P w K mg base N x (defScope st) f cdv A outer s H E).nox (defBody st) t ∧ t { nx := fun _ H' => Q .non H', rt := Q } (start N [v1]) H) : Has P w K mg base CX0 (k + 1) x [a] (sp1 p) :=
  D.ok S (fun vs H Q E h => by obtain ⟨_, rfl, _⟩ := h; rfl) (fun f cdv A outer s H vs Q E hr h => by obtain ⟨v1, rfl, h⟩ := h; exact hbody f cdv A outer s H v1 Q E hr h)
theorem Top.ok2 {a b : Str} {p : V → V → Hp → VK → XK → Prop} (D : Top K mg x st [a, b]) (S : FnScope N [a, b] (defScope st))
    (hbody : ∀ (f : Addr) (cdv : Value) (A : Around) (outer : List Env) (s : Shared) (H : Hp) (v1 v2 : V) (Q : VK) (E : XK), Room k (A.deeper (envOfC x (defScope st) s.heap.objs.size f cdv)) → p v1 v2 H Q E →
      ∃ t, PSs (cxOf CX0 P w K mg base N x (defScope st) f cdv A outer s H E).nox (defBody st) t ∧ t { nx := fun _ H' => Q .non H', rt := Q } (start N [v1, v2]) H) : Has P w K mg base CX0 (k + 1) x [a, b] (sp2 p) :=
  D.ok S (fun vs H Q E h => by obtain ⟨_, _, rfl, _⟩ := h; rfl) (fun f cdv A outer s H vs Q E hr h => by obtain ⟨v1, v2, rfl, h⟩ := h; exact hbody f cdv A outer s H v1 v2 Q E hr h)
theorem Top.ok3 {a b c : Str} {p : V → V → V → Hp → VK → XK → Prop} (D : Top K mg x st [a, b, c]) (S : FnScope N [a, b, c] (defScope st))
    (hbody : ∀ (f : Addr) (cdv : Value) (A : Around) (outer : List Env) (s : Shared) (H : Hp) (v1 v2 v3 : V) (Q : VK) (E : XK), Room k (A.deeper (envOfC x (defScope st) s.heap.objs.size f cdv)) → p v1 v2 v3 H Q E →
      ∃ t, PSs (cxOf CX0 P w K mg base N x (defScope st) f cdv A outer s H E).nox (defBody st) t ∧ t { nx := fun _ H' => Q .non H', rt := Q } (start N [v1, v2, v3]) H) : Has P w K mg base CX0 (k + 1) x [a, b, c] (sp3 p) :=
  D.ok S (fun vs H Q E h => by obtain ⟨_, _, _, rfl, _⟩ := h; rfl) (fun f cdv A outer s H vs Q E hr h => by obtain ⟨v1, v2, v3, rfl, h⟩ := h; exact hbody f cdv A outer s H v1 v2 v3 Q E hr h)
theorem Top.ok1X {a : Str} {p : V → Hp → VK → XK → Prop} (D : Top K mg x st [a]) (S : FnScope N [a] (defScope st))
    (hbody : ∀ (f : Addr) (cdv : Value) (A : Around) (outer : List Env) (s : Shared) (H : Hp) (v1 : V) (Q : VK) (E : XK), Room k (A.deeper (envOfC x (defScope st) s.heap.objs.size f cdv)) → p v1 H Q E →
      ∃ t, PSs (cxOf (L2.CX P w) P w K mg base N x (defScope st) f cdv A outer s H E) (defBody st) t ∧ t { nx := fun _ H' => Q .non H', rt := Q } (start N [v1]) H) : Has P w K mg base (L2.CX P w) (k + 1) x [a] (sp1 p) :=
  D.okX S (fun vs H Q E h => by obtain ⟨_, rfl, _⟩ := h; rfl) (fun f cdv A outer s H vs Q E hr h => by obtain ⟨v1, rfl, h⟩ := h; exact hbody f cdv A outer s H v1 Q E hr h)
theorem Top.ok2X {a b : Str} {p : V → V → Hp → VK → XK → Prop} (D : Top K mg x st [a, b]) (S : FnScope N [a, b] (defScope st))
    (hbody : ∀ (f : Addr) (cdv : Value) (A : Around) (outer : List Env) (s : Shared) (H : Hp) (v1 v2 : V) (Q : VK) (E : XK), Room k (A.deeper (envOfC x (defScope st) s.heap.objs.size f cdv)) → p v1 v2 H Q E →
      ∃ t, PSs (cxOf (L2.CX P w) P w K mg base N x (defScope st) f cdv A outer s H E) (defBody st) t ∧ t { nx := fun _ H' => Q .non H', rt := Q } (start N [v1, v2]) H) : Has P w K mg base (L2.CX P w) (k + 1) x [a, b] (sp2 p) :=
  D.okX S (fun vs H Q E h => by obtain ⟨_, _, rfl, _⟩ := h; rfl) (fun f cdv A outer s H vs Q E hr h => by obtain ⟨v1, v2, rfl, h⟩ := h; exact hbody f cdv A outer s H v1 v2 Q E hr h)
theorem Top.ok3X {a b c : Str} {p : V → V → V → Hp → VK → XK → Prop} (D : Top K mg x st [a, b, c]) (S : FnScope N [a, b, c] (defScope st))
    (hbody : ∀ (f : Addr) (cdv : Value) (A : Around) (outer : List Env) (s : Shared) (H : Hp) (v1 v2 v3 : V) (Q : VK) (E : XK), Room k (A.deeper (envOfC x (defScope st) s.heap.objs.size f cdv)) → p v1 v2 v3 H Q E →
      ∃ t, PSs (cxOf (L2.CX P w) P w K mg base N x (defScope st) f cdv A outer s H E) (defBody st) t ∧ t { nx := fun _ H' => Q .non H', rt := Q } (start N [v1, v2, v3]) H) : Has P w K mg base (L2.CX P w) (k + 1) x [a, b, c] (sp3 p) :=
  D.okX S (fun vs H Q E h => by obtain ⟨_, _, _, rfl, _⟩ := h; rfl) (fun f cdv A outer s H vs Q E hr h => by obtain ⟨v1, v2, v3, rfl, h⟩ := h; exact hbody f cdv A outer s H v1 v2 v3 Q E hr h)
end
section
variable {X : Cx} {CX : CXT} {k : Nat} {ps : List Str} {sp : Sp} {E : XK} {x : Str} {p pos : Pos} {e : Expr} {es : List Expr} {t : TA}
/-- f(e, ..): what may be raised is taken by E -/
theorem pe_own (h : Has X.prog X.w X.K X.mg X.base CX k x ps sp) (hr : Room k X.A) (hx : Passes CX X E) (ha : PA X (e :: es) t) (hg : Gl X x := by rfl)
    (hdb : (x == ("__debug__" : Str)) = false := by decide) (he : starEach (e :: es) X.env = (false, eval e X.env) :: starEach es X.env := by rfl) (hpl : (backTo pos (starEach es X.env)).any (·.1) = false := by rfl) :
    PE X (.Call (.Name x p) (e :: es) [] pos) (tCall sp [] E t) := by
  obtain ⟨f, fd, F, g, kp, b, _⟩ := h
  exact pe_call F hr hg g kp b .nil hx ha hdb he hpl
theorem pe_ownS {E : L2.St → XK} (h : Has X.prog X.w X.K X.mg X.base CX k x ps sp) (hr : Room k X.A) (hx : ∀ σ, PassesAt CX X σ (E σ)) (ha : PA X (e :: es) t) (hg : Gl X x := by rfl)
    (hdb : (x == ("__debug__" : Str)) = false := by decide) (he : starEach (e :: es) X.env = (false, eval e X.env) :: starEach es X.env := by rfl) (hpl : (backTo pos (starEach es X.env)).any (·.1) = false := by rfl) :
    PE X (.Call (.Name x p) (e :: es) [] pos) (tCallS sp E t) := by
  obtain ⟨f, fd, F, g, kp, b, _⟩ := h
  exact pe_callS F hr hg g kp b hx ha hdb he hpl
end
/-! ### tests -/
theorem ifD {p A B : Prop} [Decidable p] (h1 : p → A) (h2 : ¬ p → B) : if decide p = true then A else B := by
  by_cases h : p
  · rw [if_pos (decide_eq_true h)]; exact h1 h
  · rw [if_neg (by simp [h])]; exact h2 h
theorem ifN {p A B : Prop} [Decidable p] (h1 : ¬ p → A) (h2 : p → B) : if (!decide p) = true then A else B := by
  by_cases h : p
  · rw [if_neg (by simp [h])]; exact h2 h
  · rw [if_pos (by simp [h])]; exact h1 h
theorem ifI {i j : Int} {A B : Prop} (h1 : i = j → A) (h2 : i ≠ j → B) : if decide (V.int i = V.int j) = true then A else B := ifD (fun e => h1 (V.int.inj e)) (fun e => h2 fun z => e (by rw [z]))
theorem ifNI {i j : Int} {A B : Prop} (h1 : i ≠ j → A) (h2 : i = j → B) : if (!decide (V.int i = V.int j)) = true then A else B := ifN (fun e => h1 fun z => e (by rw [z])) (fun e => h2 (V.int.inj e))
theorem ifB {c : Bool} {A B : Prop} (h1 : c = true → A) (h2 : c = false → B) : if c = true then A else B := by
  cases c with
  | true => exact iteT (h1 rfl)
  | false => exact iteF (h2 rfl)
theorem ifT {c : Bool} {A B : Prop} (e : c = true) (h : A) : if c = true then A else B := by rw [if_pos e]; exact h
theorem ifF {c : Bool} {A B : Prop} (e : c = false) (h : B) : if c = true then A else B := by rw [e]; exact iteF h
/-! ### heaps -/
/-- the list at d begins with the object at c -/
def At (H : Hp) (d c : Addr) : Prop := ∃ r : List V, H d = some (.lst (.ref c :: r))
/-- all but what stands at d is as it was; a list at d keeps its first item -/
structure But (d : Addr) (H H' : Hp) : Prop where
  keep : ∀ b o, b ≠ d → H b = some o → H' b = some o
  hd : ∀ c, At H d c → At H' d c
instance {d : Addr} {H H' : Hp} : CoeFun (But d H H') (fun _ => ∀ b o, b ≠ d → H b = some o → H' b = some o) := ⟨But.keep⟩
theorem But.refl (d : Addr) (H : Hp) : But d H H := ⟨fun _ _ _ h => h, fun _ h => h⟩
theorem But.trans {d : Addr} {H H1 H2 : Hp} (a : But d H H1) (b : But d H1 H2) : But d H H2 := ⟨fun c o n h => b c o n (a c o n h), fun c h => b.hd c (a.hd c h)⟩
theorem _root_.L2.Same.but {d : Addr} {H H1 : Hp} (a : Same H H1) : But d H H1 := ⟨fun c o _ h => a c o h, fun c h => by
  obtain ⟨r, e⟩ := h
  exact ⟨r, a _ _ e⟩⟩
theorem same_new {H : Hp} {p : Addr} {o : HO} (h : H p = none) : Same H (upd H p o) := fun b x e => by
  rw [upd_ne (ne_of_none e h)]
  exact e
theorem same_mut {H H' : Hp} {p : Addr} {o : HO} (e : Same H H') (h : H p = none) : Same H (upd H' p o) := fun a u ha => by
  rw [upd_ne (ne_of_none ha h)]
  exact e a u ha
theorem but_mut {H H' : Hp} {d : Addr} {o : HO} (e : But d H H') (ho : ∀ c, At H' d c → ∃ r : List V, o = .lst (.ref c :: r)) : But d H (upd H' d o) := ⟨fun a u n ha => by
  rw [upd_ne n]
  exact e a u n ha, fun c h => by
  obtain ⟨r, z⟩ := ho c (e.hd c h)
  exact ⟨r, by rw [upd_same, z]⟩⟩
theorem but_mut2 {H H' : Hp} {d p : Addr} {o : HO} (e : But d H H') (h : H p = none) : But d H (upd H' p o) := ⟨fun a u n ha => by
  rw [upd_ne (ne_of_none ha h)]
  exact e a u n ha, fun c k => by
  obtain ⟨r, z⟩ := e.hd c k
  obtain ⟨_, y⟩ := k
  exact ⟨r, by rw [upd_ne (ne_of_none y h)]; exact z⟩⟩
theorem But.free {d : Addr} {H H' : Hp} (e : But d H H') {l : Addr} (n : l ≠ d) (h : H' l = none) : H l = none := by
  cases q : H l with
  | none => rfl
  | some o =>
    rw [e l o n q] at h
    cases h
theorem _root_.L2.Same.tup {K : PySem.W.Frag} {H H' : Hp} {a : Addr} {xs : List V} (e : Same H H') (h : SqT K H a xs) : SqT K H' a xs := by
  rcases h with (h | ⟨o, h⟩) | h
  · exact .inl (.inl (e _ _ h))
  · exact .inl (.inr ⟨o, e _ _ h⟩)
  · exact .inr h
theorem sz {n : Nat} (h : n ≤ 100000) : n ≤ sizeLine := Nat.le_trans h (by decide)
theorem szl {n : Nat} (h : n < 100000) : n < sizeLine := Nat.lt_of_lt_of_le h (by decide)
theorem szM {n : Nat} (h : n ≤ 1000000) : n < sizeLine := Nat.lt_of_le_of_lt h (by decide)
/-! ### arithmetic -/
theorem mul_bd {a b A B : Int} (ha : 0 ≤ a) (ha' : a ≤ A) (hb : 0 ≤ b) (hb' : b ≤ B) : 0 ≤ a * b ∧ a * b ≤ A * B :=
  ⟨Int.mul_nonneg ha hb, Int.mul_le_mul ha' hb' hb (Int.le_trans ha ha')⟩
theorem mod_bd (a : Int) {b : Int} (h : 0 < b) : 0 ≤ a % b ∧ a % b < b := ⟨Int.emod_nonneg a (by omega), Int.emod_lt_of_pos a h⟩
/-! ### xs.count(y), flat items -/
def rCntA (K : PySem.W.Frag) : V → List V → Hp → VK → Prop := fun x xs H Q => ∃ (p : Addr) (ys : List V) (y : V), x = .ref p ∧ xs = [y] ∧ SqL K H p ys ∧ flatV y = true ∧ ys.all flatV = true ∧ Q (.int (ys.countP (fun z => eqV z y) : Nat)) H
theorem countP_eqU {x : V} : ∀ {xs : List V} {us : List Value}, Vals xs us → xs.all flatV = true → us.countP (eqU x) = xs.countP fun y => eqV y x
  | _, _, .nil, _ => rfl
  | y :: xs, u :: us, .cons r t, f => by
    rw [List.all_cons, Bool.and_eq_true] at f
    rw [List.countP_cons, List.countP_cons, eqU_of r f.1, countP_eqU t f.2]
theorem mt_countA {X : Cx} : MtR X "list.count" (rCntA X.K) := by
  intro pins s σ H x xs v us Q I rx rxs h
  obtain ⟨p, ys, y, rfl, rfl, hs, fy, fs, q⟩ := h
  cases rx
  obtain ⟨u, rfl, ru⟩ := rxs.one
  obtain ⟨its, rv, ⟨⟨cls, dd, data, sl⟩, n, ho, hc, hdn, hd⟩, hlen⟩ := I.list hs
  simp only at hc hd
  subst hc hd
  refine call_meets PySem.F.slot_list_count ⟨_, ho, rfl⟩ PySem.F.entry_list_count (PySem.F.args_list_count_2 _ _)
    (SeqAt.list_countAt p its.toArray n dd sl u (eqU y)) ⟨ho, fun z hz => mem_eqAt ru fy rv fs z (by simpa using hz), ?_⟩
  have ec : its.toArray.toList.countP (eqU y) = ys.countP fun z => eqV z y := countP_eqU rv fs
  refine ⟨.int (ys.countP (fun z => eqV z y) : Nat), H, I.tok _, ⟨s.toks, ?_⟩, q⟩
  show Value.int ((its.toArray.toList.countP (eqU y) : Nat) : Int) s.toks = _
  rw [ec]
/-- while True -/
theorem pt_true {X : Cx} {j pos} : PT X (.Constant (.bool true) j pos) (fun _ H Q => Q true H) := by
  have h : PT X (.Constant (.bool true) j pos) (tB (tC (.bl true))) := pt_val pe_bl
  exact ⟨fun pins s σ H Q I q => h.run pins s σ H Q I ⟨true, rfl, q⟩⟩
/-- an item of a list of ints -/
theorem at_ints {ns : List Int} {v : Int} (h0 : 0 ≤ v) (h1 : v < ns.length) : ∃ x, x ∈ ns ∧ atI (ns.map V.int) v = some (.int x) := by
  obtain ⟨j, rfl⟩ := Int.eq_ofNat_of_zero_le h0
  have jl : j < ns.length := by omega
  refine ⟨ns[j], List.getElem_mem jl, atI_nat ?_⟩
  rw [List.getElem?_map, List.getElem?_eq_getElem jl]
  rfl
end Tw

/-! The draws: what each of the common defs promises. -/
namespace Tw
open PySem PySem.Spec PyProof.Rows L2

def pMix : V → V → Hp → VK → XK → Prop := fun a b H Q _ => ∃ c k : Int, a = .int c ∧ b = .int k ∧ 0 ≤ k ∧ k < 1000000000 ∧ ∀ v : Int, 0 ≤ v → Q (.int v) H
/-- a deck: its cells, where it stands, what is left of a great cell, how many were mixed, the sum -/
def Deck (H : Hp) (d : Addr) (n : Nat) : Prop := ∃ (c : Addr) (xs : List Int) (i r k t : Int), H d = some (.lst [.ref c, .int i, .int r, .int k, .int t]) ∧ H c = some (.lst (xs.map V.int)) ∧ c ≠ d ∧ xs.length ≤ 63 ∧ 0 ≤ i ∧ i ≤ (xs.length : Int) ∧ 0 ≤ r ∧ 0 ≤ k ∧ k ≤ (n : Int)
theorem Deck.mono {H : Hp} {d : Addr} {n m : Nat} (h : Deck H d n) (l : n ≤ m) : Deck H d m := by
  obtain ⟨c, xs, i, r, k, t, a1, a2, a3, a4, a5, a6, a7, a8, a9⟩ := h
  exact ⟨c, xs, i, r, k, t, a1, a2, a3, a4, a5, a6, a7, a8, by omega⟩
theorem Deck.same {H H' : Hp} {d : Addr} {n : Nat} (h : Deck H d n) (s : Same H H') : Deck H' d n := by
  obtain ⟨c, xs, i, r, k, t, a1, a2, a3⟩ := h
  exact ⟨c, xs, i, r, k, t, s _ _ a1, s _ _ a2, a3⟩
theorem Deck.ne {H : Hp} {d p : Addr} {n : Nat} (h : Deck H d n) (e : H p = none) : p ≠ d := by
  obtain ⟨c, xs, i, r, k, t, a1, _⟩ := h
  intro z
  rw [z, a1] at e
  cases e
theorem Deck.ne_tup {H : Hp} {d p : Addr} {n : Nat} {xs : List V} (h : Deck H d n) (e : H p = some (.tup xs)) : p ≠ d := by
  obtain ⟨c, xs, i, r, k, t, a1, _⟩ := h
  intro z
  rw [z, a1] at e
  cases e
theorem Deck.fresh {H H' : Hp} {d p : Addr} {n m : Nat} (h : Deck H d n) (h' : Deck H' d m) (b : But d H H') (e : H' p = none) : H p = none := b.free (h'.ne e) e
/-- a list that is none of the deck's -/
def Out (H : Hp) (d L : Addr) : Prop := L ≠ d ∧ ∀ c, At H d c → c ≠ L
theorem Deck.out {H : Hp} {d L : Addr} {n : Nat} {o : HO} (D : Deck H d n) (e : H L = none) : Out (upd H L o) d L := by
  obtain ⟨c, xs, i, r, k, t, a1, a2, a3⟩ := D
  have n1 : L ≠ d := fun z => by rw [z, a1] at e; cases e
  have n2 : c ≠ L := fun z => by rw [← z, a2] at e; cases e
  refine ⟨n1, fun c' h => ?_⟩
  obtain ⟨r', y⟩ := h
  rw [upd_ne (Ne.symm n1), a1] at y
  cases y
  exact n2
theorem Out.but {H H' : Hp} {d L : Addr} {n m : Nat} (h : Out H d L) (D : Deck H d n) (D' : Deck H' d m) (b : But d H H') : Out H' d L := by
  obtain ⟨c, xs, i, r, k, t, a1, a2, a3⟩ := D
  obtain ⟨r1, e1⟩ := b.hd c ⟨_, a1⟩
  refine ⟨h.1, fun c' hc => ?_⟩
  obtain ⟨r2, e2⟩ := hc
  rw [e1] at e2
  cases e2
  exact h.2 _ ⟨_, a1⟩
theorem Out.mut {H : Hp} {d L : Addr} {o : HO} (h : Out H d L) : Out (upd H L o) d L := ⟨h.1, fun c hc => h.2 c (by
  obtain ⟨r, e⟩ := hc
  rw [upd_ne (Ne.symm h.1)] at e
  exact ⟨r, e⟩)⟩
theorem Deck.mut {H : Hp} {d L : Addr} {n : Nat} {o : HO} (D : Deck H d n) (h : Out H d L) : Deck (upd H L o) d n := by
  obtain ⟨c, xs, i, r, k, t, a1, a2, a3⟩ := D
  exact ⟨c, xs, i, r, k, t, by rw [upd_ne (Ne.symm h.1)]; exact a1, by rw [upd_ne (h.2 c ⟨_, a1⟩)]; exact a2, a3⟩
def pDeck (K : PySem.W.Frag) : V → Hp → VK → XK → Prop := fun a H Q _ => ∃ (s : Addr) (xs : List Int), a = .ref s ∧ SqL K H s (xs.map V.int) ∧ ∀ H' d, Same H H' → H d = none → Deck H' d 0 → Q (.ref d) H'
/-- a draw below m -/
def pNext (c : Nat) : V → V → Hp → VK → XK → Prop := fun a b H Q _ => ∃ (d : Addr) (n : Nat) (m : Int), a = .ref d ∧ b = .int m ∧ 0 < m ∧ m < 1000000000000000000000000000000000000000000 ∧ Deck H d n ∧ n + c ≤ 100000000 ∧
  ∀ (H' : Hp) (v : Int), But d H H' → Deck H' d (n + c) → 0 ≤ v → v < m → Q (.int v) H'
/-- a bound -/
def pBound : V → V → Hp → VK → XK → Prop := fun a b H Q _ => ∃ (d : Addr) (n : Nat) (m : Int), a = .ref d ∧ b = .int m ∧ 100 ≤ m ∧ m ≤ 1000000000000 ∧ Deck H d n ∧ n < 90000000 ∧
  ∀ (H' : Hp) (v : Int), But d H H' → Deck H' d (n + 50) → 1 ≤ v → v ≤ m → Q (.int v) H'
/-- a rule (times, plus, bound), read at r -/
structure Rule (t p b : Int) : Prop where
  b1 : 1 ≤ b
  b2 : b ≤ 1000000000000
  t0 : 0 ≤ t
  t1 : t < b
  p0 : 0 ≤ p
  p1 : p < b
def pRule : V → V → Hp → VK → XK → Prop := fun a b H Q _ => ∃ (d : Addr) (n : Nat) (m : Int), a = .ref d ∧ b = .int m ∧ 100 ≤ m ∧ m ≤ 1000000000000 ∧ Deck H d n ∧ n < 80000000 ∧
  ∀ (H' : Hp) (r : Addr) (t p b : Int), But d H H' → Deck H' d (n + 60) → H r = none → H' r = some (.tup [.int t, .int p, .int b]) → Rule t p b → b ≤ m → Q (.ref r) H'
theorem cut_take (xs : List V) (n : Nat) : cutV xs none (some (n : Int)) = xs.take n := by
  unfold cutV
  rw [HT.sIx_none, HT.sIx_nat]
  show List.take (min n xs.length - 0) (List.drop 0 xs) = _
  rw [List.drop_zero, Nat.sub_zero]
  by_cases h : n ≤ xs.length
  · rw [Nat.min_eq_left h]
  · rw [Nat.min_eq_right (by omega), List.take_of_length_le (Nat.le_refl _), List.take_of_length_le (by omega)]
/-- the classes of the refusals as the top has left them -/
structure Err (K : PySem.W.Frag) (mg : Str → Option Value) (CR CA CB CF CN CU : Addr) : Prop where
  gR : mg "RowError" = some (.ref CR)
  gA : mg "NoAsk" = some (.ref CA)
  gB : mg "NoBack" = some (.ref CB)
  gF : mg "NoFit" = some (.ref CF)
  gN : mg "NoNumber" = some (.ref CN)
  gU : mg "NoRule" = some (.ref CU)
/-- an error's class against all: which of the five it is -/
structure Kit (K : PySem.W.Frag) (C CR CA CB CF CN CU : Addr) (a b f n u : Bool) : Prop where
  xc : XcC K C
  r : PySem.W.kitOne K (.ref C) (.ref CR) = some true
  v : PySem.W.kitOne K (.ref C) (.type "ValueError") = some true
  a : PySem.W.kitOne K (.ref C) (.ref CA) = some a
  b : PySem.W.kitOne K (.ref C) (.ref CB) = some b
  f : PySem.W.kitOne K (.ref C) (.ref CF) = some f
  n : PySem.W.kitOne K (.ref C) (.ref CN) = some n
  u : PySem.W.kitOne K (.ref C) (.ref CU) = some u
/-- a number that is none: kept by the error -/
def pKindN (CN : Addr) : V → Hp → VK → XK → Prop := fun a H Q _ => ∃ (e dd : Addr) (v : V), a = .ref e ∧ H e = some (exv e (.ref CN) (some dd)) ∧ H dd = some (.xd [("number", v)]) ∧
  ∀ H' p, Same H H' → H p = none → H' p = some (.tup [.str "number", v]) → Q (.ref p) H'
/-- a number that is none of a bound's -/
def pWrong : V → V → Hp → VK → XK → Prop := fun a b H Q _ => ∃ (d : Addr) (n : Nat) (m : Int), a = .ref d ∧ b = .int m ∧ 0 < m ∧ m ≤ 1000000000000 ∧ Deck H d n ∧ n + 4 ≤ 100000000 ∧
  ∀ (H' : Hp) (v : Int), But d H H' → Deck H' d (n + 4) → (v < 0 ∨ m ≤ v) → Q (.int v) H'
end Tw

/-! The program's steps and rounds: the mathematics of a walk, and the promises. -/
namespace Tw
open PySem PySem.Spec PyProof.Rows L2

/-! ### walks -/
def stp (t p m x : Int) : Int := (t * x + p) % m
theorem stp_rng {t p m : Int} (h : 0 < m) (x : Int) : 0 ≤ stp t p m x ∧ stp t p m x < m := mod_bd _ h
def wk (f : Int → Int) : Nat → List Int → Int → List Int × Int
  | 0, ws, x => (ws, x)
  | k + 1, ws, x => if x ∈ ws then (ws, x) else wk f k (ws ++ [x]) (f x)
theorem wk_in {f : Int → Int} {ws : List Int} {x : Int} (h : x ∈ ws) : ∀ k, wk f k ws x = (ws, x)
  | 0 => rfl
  | k + 1 => by unfold wk; rw [if_pos h]
theorem wk_out {f : Int → Int} {ws : List Int} {x : Int} (h : x ∉ ws) (k : Nat) : wk f (k + 1) ws x = wk f k (ws ++ [x]) (f x) := by
  conv => lhs; unfold wk
  rw [if_neg h]
theorem nat_len : ∀ (n : Nat) (l : List Nat), l.Nodup → (∀ x ∈ l, x < n) → l.length ≤ n
  | 0, l, _, h => by
    cases l with
    | nil => exact Nat.le_refl _
    | cons a r => exact absurd (h a List.mem_cons_self) (Nat.not_lt_zero _)
  | n + 1, l, nd, h => by
    by_cases hn : n ∈ l
    · have ih := nat_len n (l.erase n) (nd.erase n) (fun x hx => by
        obtain ⟨h1, h2⟩ := nd.mem_erase_iff.mp hx
        have := h x h2
        omega)
      rw [List.length_erase_of_mem hn] at ih
      omega
    · have ih := nat_len n l nd (fun x hx => by
        have := h x hx
        have : x ≠ n := fun e => hn (e ▸ hx)
        omega)
      omega
def Rng (m : Int) (ws : List Int) : Prop := ∀ x ∈ ws, 0 ≤ x ∧ x < m
theorem int_len {m : Int} {ws : List Int} (nd : ws.Nodup) (h : Rng m ws) : ws.length ≤ m.toNat := by
  have h1 : (ws.map Int.toNat).Nodup := by
    rw [List.nodup_iff_pairwise_ne] at nd ⊢
    rw [List.pairwise_map]
    refine List.Pairwise.imp_of_mem (fun {a b} ha hb hne => ?_) nd
    have := h a ha
    have := h b hb
    omega
  have := nat_len m.toNat (ws.map Int.toNat) h1 (fun x hx => by
    obtain ⟨y, hy, rfl⟩ := List.mem_map.mp hx
    have := h y hy
    omega)
  rw [List.length_map] at this
  exact this
theorem nodup_snoc {ws : List Int} {x : Int} (nd : ws.Nodup) (h : x ∉ ws) : (ws ++ [x]).Nodup := by
  rw [List.nodup_append]
  refine ⟨nd, by simp, fun a ha b hb => ?_⟩
  rw [List.mem_singleton] at hb
  subst hb
  exact fun e => h (e ▸ ha)
theorem rng_snoc {m : Int} {ws : List Int} {x : Int} (h : Rng m ws) (hx : 0 ≤ x ∧ x < m) : Rng m (ws ++ [x]) := fun y hy => by
  rcases List.mem_append.mp hy with hy | hy
  · exact h y hy
  · rw [List.mem_singleton.mp hy]; exact hx
theorem wk_good {t p m : Int} (m0 : 0 < m) : ∀ (k : Nat) (ws : List Int) (x : Int), ws.Nodup → Rng m ws → 0 ≤ x ∧ x < m → m.toNat + 1 ≤ k + ws.length →
    (wk (stp t p m) k ws x).1.Nodup ∧ Rng m (wk (stp t p m) k ws x).1 ∧ (wk (stp t p m) k ws x).2 ∈ (wk (stp t p m) k ws x).1
  | 0, ws, x, nd, rg, hx, hk => by
    have := int_len nd rg
    omega
  | k + 1, ws, x, nd, rg, hx, hk => by
    by_cases h : x ∈ ws
    · rw [wk_in h]
      exact ⟨nd, rg, h⟩
    · rw [wk_out h]
      exact wk_good m0 k (ws ++ [x]) (stp t p m x) (nodup_snoc nd h) (rng_snoc rg hx) (stp_rng m0 x) (by rw [List.length_append]; show m.toNat + 1 ≤ k + (ws.length + 1); omega)
/-! ### a dict of places -/
def enumD : Nat → List Int → List (Key × V)
  | _, [] => []
  | i, w :: ws => (Sum.inl w, V.int (i : Int)) :: enumD (i + 1) ws
theorem enumD_len : ∀ (i : Nat) (ws : List Int), (enumD i ws).length = ws.length
  | _, [] => rfl
  | i, w :: ws => by show (enumD (i + 1) ws).length + 1 = ws.length + 1; rw [enumD_len]
theorem enumD_snoc : ∀ (i : Nat) (ws : List Int) (x : Int), enumD i (ws ++ [x]) = enumD i ws ++ [(Sum.inl x, V.int ((i + ws.length : Nat) : Int))]
  | i, [], x => rfl
  | i, w :: ws, x => by
    show (Sum.inl w, V.int (i : Int)) :: enumD (i + 1) (ws ++ [x]) = (Sum.inl w, V.int (i : Int)) :: enumD (i + 1) ws ++ [(Sum.inl x, V.int ((i + (ws.length + 1) : Nat) : Int))]
    rw [enumD_snoc, show i + 1 + ws.length = i + (ws.length + 1) by omega]
    rfl
theorem enumD_none : ∀ (i : Nat) {ws : List Int} {x : Int}, x ∉ ws → valV (enumD i ws) (Sum.inl x) = none
  | _, [], _, _ => rfl
  | i, w :: ws, x, h => by
    show valV ((Sum.inl w, V.int (i : Int)) :: enumD (i + 1) ws) (Sum.inl x) = none
    rw [valV_neg (fun e => h (by rw [← Sum.inl.inj e]; exact List.mem_cons_self))]
    exact enumD_none (i + 1) (fun hm => h (List.mem_cons_of_mem _ hm))
theorem enumD_some : ∀ (i : Nat) {ws : List Int} {x : Int}, x ∈ ws → valV (enumD i ws) (Sum.inl x) = some (V.int ((i + ws.idxOf x : Nat) : Int))
  | i, w :: ws, x, h => by
    show valV ((Sum.inl w, V.int (i : Int)) :: enumD (i + 1) ws) (Sum.inl x) = _
    by_cases e : w = x
    · subst e
      rw [valV_pos rfl, List.idxOf_cons_self]
      rfl
    · have e2 : (w :: ws).idxOf x = ws.idxOf x + 1 := by
        rw [List.idxOf_cons]
        simp [beq_eq_false_iff_ne.mpr e]
      rw [valV_neg (fun z => e (Sum.inl.inj z)), e2, enumD_some (i + 1) ((List.mem_cons.mp h).resolve_left (fun z => e z.symm))]
      congr 2
      omega
theorem upd_self {H : Hp} {a : Addr} {o : HO} (h : H a = some o) : upd H a o = H := by
  funext b
  by_cases e : b = a
  · rw [e, upd_same, h]
  · rw [upd_ne e]
theorem sqT_upd {K : PySem.W.Frag} {H : Hp} {r a : Addr} {xs : List V} {o u : HO} (h : SqT K H r xs) (ha : H a = some u) (n1 : ∀ ys, u ≠ .tup ys) (n2 : ∀ ob v, u ≠ .frz ob v) : SqT K (upd H a o) r xs := by
  rcases h with (h | ⟨ob, h⟩) | h
  · refine .inl (.inl ?_)
    rw [upd_ne (fun e => n1 xs (by rw [e, ha] at h; exact Option.some.inj h))]
    exact h
  · refine .inl (.inr ⟨ob, ?_⟩)
    rw [upd_ne (fun e => n2 ob _ (by rw [e, ha] at h; exact Option.some.inj h))]
    exact h
  · exact .inr h
/-! ### refusals -/
/-- the error behind a number that is none: its own dict d, new -/
def Bad (CN : Addr) (n : Int) (H : Hp) (E : XK) : Prop := ∀ d, H d = none → E (.ref CN) (some d) (upd H d (.xd [("number", .int n)]))
theorem made_eq {H : Hp} {a d : Addr} {C : Addr} {fs : List (Str × V)} (na : H a = none) (nd : d ≠ a) :
    upd (L2.del (upd (upd (upd H a (exo a C none)) d (exd d fs)) a (exo a C (some d))) a) d (.xd fs) = upd H d (.xd fs) := by
  funext b
  by_cases hb : b = d
  · rw [hb, upd_same, upd_same]
  · rw [upd_ne hb, upd_ne hb]
    by_cases ha : b = a
    · rw [ha, del_same, na]
    · rw [del_ne ha, upd_ne ha, upd_ne hb, upd_ne ha]
def spInit (K : PySem.W.Frag) : Sp := sp2 fun x v H Q _ => ∃ (a C : Addr), x = .ref a ∧ OexC K C ∧ PySem.W.findIn K (.ref C) "number" = some none ∧ H a = some (exo a C none) ∧ ∀ d, H d = none → d ≠ a → Q .non (upd (upd H d (exd d [("number", v)])) a (exo a C (some d)))
def pWhole : V → Hp → VK → XK → Prop := fun a H Q _ => ∃ n : Int, a = .int n ∧ Q (.bl true) H
def pIsNum : V → V → Hp → VK → XK → Prop := fun a b H Q _ => ∃ n m : Int, a = .int n ∧ b = .int m ∧ Q (.bl (decide (0 ≤ n ∧ n < m))) H
def pCheck (CN : Addr) : V → V → Hp → VK → XK → Prop := fun a b H Q E => ∃ n m : Int, a = .int n ∧ b = .int m ∧ (0 ≤ n → n < m → Q .non H) ∧ (¬ (0 ≤ n ∧ n < m) → Bad CN n H E)
def pNextOf (K : PySem.W.Frag) (CN : Addr) : V → V → Hp → VK → XK → Prop := fun a b H Q E => ∃ (r : Addr) (t p m n : Int), a = .ref r ∧ b = .int n ∧ SqT K H r [.int t, .int p, .int m] ∧ Rule t p m ∧
  (0 ≤ n → n < m → Q (.int (stp t p m n)) H) ∧ (¬ (0 ≤ n ∧ n < m) → Bad CN n H E)
def pWalk (K : PySem.W.Frag) : V → V → V → Hp → VK → XK → Prop := fun a b c H Q _ => ∃ (r : Addr) (t p m s : Int) (l : Addr) (ws : List Int), a = .ref r ∧ b = .int s ∧ c = .ref l ∧ SqT K H r [.int t, .int p, .int m] ∧ Rule t p m ∧ m ≤ 1000000 ∧ 0 ≤ s ∧ s < m ∧
  H l = some (.dK (enumD 0 ws)) ∧ ws.Nodup ∧ Rng m ws ∧ Q (.int (wk (stp t p m) (m.toNat + 1 - ws.length) ws s).2) (upd H l (.dK (enumD 0 (wk (stp t p m) (m.toNat + 1 - ws.length) ws s).1)))
/-- tail and length -/
def rndW (t p m s : Int) : List Int × Int := wk (stp t p m) (m.toNat + 1) [] s
def rndT (t p m s : Int) : Int := (((rndW t p m s).1.idxOf (rndW t p m s).2 : Nat) : Int)
def rndL (t p m s : Int) : Int := ((rndW t p m s).1.length : Int) - rndT t p m s
def pRound (K : PySem.W.Frag) (CN : Addr) : V → V → Hp → VK → XK → Prop := fun a b H Q E => ∃ (r : Addr) (t p m s : Int), a = .ref r ∧ b = .int s ∧ SqT K H r [.int t, .int p, .int m] ∧ Rule t p m ∧ m ≤ 1000000 ∧
  (0 ≤ s → s < m → ∀ H' q, Same H H' → H q = none → H' q = some (.tup [.int (rndT t p m s), .int (rndL t p m s)]) → Q (.ref q) H') ∧ (¬ (0 ≤ s ∧ s < m) → Bad CN s H E)
def pRoundL (K : PySem.W.Frag) : V → V → Hp → VK → XK → Prop := fun a b H Q _ => ∃ (r : Addr) (t p m s : Int), a = .ref r ∧ b = .int s ∧ SqT K H r [.int t, .int p, .int m] ∧ Rule t p m ∧ m ≤ 1000000 ∧ 0 ≤ s ∧ s < m ∧
  ∀ H' q, Same H H' → H q = none → H' q = some (.tup [.int (rndT t p m s), .int (rndL t p m s)]) → Q (.ref q) H'
/-- a refusal that was asked for: True -/
def pRefR (K : PySem.W.Frag) : V → V → Hp → VK → XK → Prop := fun a b H Q _ => ∃ (r : Addr) (t p m n : Int), a = .ref r ∧ b = .int n ∧ SqT K H r [.int t, .int p, .int m] ∧ Rule t p m ∧ m ≤ 1000000 ∧ (n < 0 ∨ m ≤ n) ∧ ∀ H', Same H H' → Q (.bl true) H'
/-- data that are alike -/
theorem eqv_self {d : PyData} (h : SeqAt.shaped d = true) : PyData.eqv d d = true := SeqAt.eqv_refl d (SeqAt.canLay_of_shaped h)
theorem shp_sn (n : Int) : SeqAt.shaped (.tuple [.str "number", .int n]) = true := by
  have h : PyData.canLay0 (.str "number") = true := by decide +kernel
  show (PyData.canLay0 (.tuple [.str "number", .int n]) && decide (PyData.depth (.tuple [.str "number", .int n]) ≤ 64)) = true
  simp [PyData.canLay0, PyData.canLayAll0] at h ⊢
  exact ⟨h, of_decide_eq_true rfl⟩
theorem dp_ints {K : PySem.W.Frag} {H : Hp} : ∀ ns : List Int, DpAll K H (ns.map V.int) (ns.map PyData.int)
  | [] => .nil
  | n :: ns => .cons (.int n) (dp_ints ns)
/-! ### what the top has left -/
theorem top_mk {K : PySem.W.Frag} {h : Heap} {mg : Str → Option Value} {x : Str} {st : Stmt} {ps : List Str} {f : Addr} {oc : Value} {od an : Option Addr} {sl : Array (Option Value)} {kV dc pm cd ct : Value} (X : K.In h) (G : h.Ns mainGlobals mg)
    (a : PySem.W.nsIn K mainGlobals x = some (some (.ref f))) (l : K.lookup f = some ⟨oc, od, .func (PySem.W.fnOf x x (defArgs st) (defBody st) (defScope st) .none kV dc pm an cd ct), sl⟩) (c : PySem.W.codeIn K cd x = true) (k : PySem.W.keepIn K (.ref f) = true)
    (hb : ∀ (kV doc pm : Value) (an : Option Addr) (cdv ct : Value) (us : List Value), us.length = ps.length → bindArgs (PySem.W.fnOf x x (defArgs st) (defBody st) (defScope st) .none kV doc pm an cdv ct) ⟨us, []⟩ = pure (ps.zip us)) : Top K mg x st ps :=
  ⟨f, _, fun_mk l c k, PySem.W.mg_of X G a, (fun_mk l c k).binds hb⟩
end Tw

/-! zip of two and of three, lists and tuples in any mix. -/
namespace Tw
open PySem PySem.Spec PyProof.Rows L2

/-- at a stands a list, or (true) a tuple -/
def SqX (K : PySem.W.Frag) : Bool → Hp → Addr → List V → Prop
  | true => SqT K
  | false => SqL K
def ItX : Bool → Heap → Addr → Addr → Nat → Prop
  | true, h, it, a, i => h.IsTupleIter it a i
  | false, h, it, a, i => h.IsListIter it a i
def AtX : Bool → Heap → Addr → Array Value → Prop
  | true, h, a, its => h.IsTuple a its
  | false, h, a, its => h.IsList a its
theorem ItX.obj {t : Bool} {h : Heap} {it a : Addr} {i : Nat} (q : ItX t h it a i) : ∃ o, h.get? it = some o ∧ ∀ v, o.data ≠ .cell v := by
  cases t with
  | true =>
    obtain ⟨o1, e1, _, d1⟩ := q
    exact ⟨o1, e1, fun v q => by rw [d1] at q; cases q⟩
  | false =>
    obtain ⟨o1, e1, _, d1⟩ := q
    exact ⟨o1, e1, fun v q => by rw [d1] at q; cases q⟩
theorem ItX.over {t : Bool} {h h' : Heap} {it a : Addr} {i : Nat} (q : ItX t h it a i) (k : ∀ o, h.get? it = some o → h'.get? it = some o) : ItX t h' it a i := by
  cases t with
  | true => exact Heap.IsTupleIter.at q k
  | false => exact Heap.IsListIter.at q k
theorem drawsX {prog : Program} {w : World} {A : Around} (t : Bool) (hh : A.handled = none) (it a : Addr) (ne : a ≠ it) (its : Array Value) : Draws prog w A it [it, a] its.size (fun i v => its[i]? = some v) (fun i h => ItX t h it a i ∧ AtX t h a its) := by
  cases t with
  | true => exact Draws.tuple hh it a ne its
  | false => exact Draws.list hh it a ne its
theorem beginsX (t : Bool) (a : Addr) (its : Array Value) : ∃ o, Begins (.ref a) o (fun h => AtX t h a its) ∧ ∀ (h : Heap) (it : Addr), h.get? it = some o → ItX t h it a 0 := by
  cases t with
  | true => exact ⟨_, begins_tuple a its, fun h it e => ⟨_, e, rfl, rfl⟩⟩
  | false => exact ⟨_, begins_list a its, fun h it e => ⟨_, e, rfl, rfl⟩⟩
theorem valsX2 {x y : V} {us : List Value} (r : Vals [x, y] us) : ∃ u v, us = [u, v] ∧ RelV x u ∧ RelV y v := by
  cases r with
  | cons a r =>
    cases r with
    | cons b r =>
      cases r
      exact ⟨_, _, rfl, a, b⟩
theorem valsX3 {x y z : V} {us : List Value} (r : Vals [x, y, z] us) : ∃ u v w, us = [u, v, w] ∧ RelV x u ∧ RelV y v ∧ RelV z w := by
  cases r with
  | cons a r =>
    obtain ⟨u, v, rfl, b, c⟩ := valsX2 r
    exact ⟨_, _, _, rfl, a, b, c⟩
theorem neN' {a b : Nat} (h : ¬ a = b) : (a : Addr) ≠ b := h
theorem nin2 {a b c : Nat} (h : ¬ a = b) (h' : ¬ a = c) : (a : Addr) ∉ ([b, c] : List Addr) := fun m => by
  rcases List.mem_cons.mp m with e | m
  · exact h e
  · exact h' (List.mem_singleton.mp m)
theorem sepX2 (n a b : Nat) (la : a < n) (lb : b < n) : ZipSep2 (n + 4) (n + 2) (n + 3) n (n + 1) [n, a] [n + 1, b] := by
  constructor <;> first | exact List.mem_cons_self | (refine neN' ?_; omega) | (refine nin2 ?_ ?_ <;> omega)
theorem sepX3 (n a b c : Nat) (la : a < n) (lb : b < n) (lc : c < n) : ZipSep3 (n + 5) (n + 3) (n + 4) n (n + 1) (n + 2) [n, a] [n + 1, b] [n + 2, c] := by
  constructor <;> first | exact List.mem_cons_self | (refine neN' ?_; omega) | (refine nin2 ?_ ?_ <;> omega)
theorem farX (n a k : Nat) (la : a < n) : (a : Addr) ≠ n + k := by
  refine neN' ?_
  omega
theorem lo5 {n c : Nat} (h : (c : Addr) ∈ ([n + 4, n + 2, n + 3, n, n + 1] : List Addr)) : n ≤ c := by
  have h' : c ∈ ([n + 4, n + 2, n + 3, n, n + 1] : List Nat) := h
  simp at h'
  omega
theorem lo6 {n c : Nat} (h : (c : Addr) ∈ ([n + 5, n + 3, n + 4, n, n + 1, n + 2] : List Addr)) : n ≤ c := by
  have h' : c ∈ ([n + 5, n + 3, n + 4, n, n + 1, n + 2] : List Nat) := h
  simp at h'
  omega
section
variable {X : Cx} {pins : List (Addr × Obj)} {σ : L2.St} {H : Hp} {s : Shared} {t : Bool} {a : Addr} {xs ys : List V}
theorem srcX (I : Inv X pins σ H s) (q : SqX X.K t H a xs) : ∃ its : List Value, Vals xs its ∧ AtX t s.heap a its.toArray ∧ a < s.heap.objs.size := by
  cases t with
  | true =>
    obtain ⟨its, rv, p, _⟩ := I.tuple q
    obtain ⟨o1, ho1, _⟩ := id p
    exact ⟨its, rv, p, Heap.lt_size ho1⟩
  | false =>
    obtain ⟨its, rv, p, _⟩ := I.list q
    exact ⟨its, rv, p.isList, p.lt⟩
theorem injX (I : Inv X pins σ H s) (q : SqX X.K t H a xs) (q' : SqX X.K t H a ys) : xs = ys := by
  cases t with
  | true => exact I.tuple_inj q q'
  | false => exact I.list_inj q q'
end

/-! ### 2 -/
def Itx2 (K : PySem.W.Frag) (t1 t2 : Bool) (a1 a2 : Addr) : It :=
  ⟨fun i H => ∃ (l1 l2 : List V) (x1 x2 : V), SqX K t1 H a1 l1 ∧ SqX K t2 H a2 l2 ∧ l1[i]? = some x1 ∧ l2[i]? = some x2,
    fun i H v H' => ∃ T x1 x2, v = .ref T ∧ H T = none ∧ H' = upd H T (.tup [x1, x2]) ∧ (∀ l, SqX K t1 H a1 l → l[i]? = some x1) ∧ (∀ l, SqX K t2 H a2 l → l[i]? = some x2),
    fun i H => ∃ l1 l2 : List V, SqX K t1 H a1 l1 ∧ SqX K t2 H a2 l2 ∧ i ≤ l1.length ∧ i ≤ l2.length ∧ (i = l1.length ∨ i = l2.length)⟩
theorem turn_x2 {P : Program} {w : World} {K : PySem.W.Frag} {elts : List Expr} {kk : Nat} {tpos : Pos} {t1 t2 : Bool} {a1 a2 z TI TO i1 i2 : Addr} (S : ZipSep2 z TI TO i1 i2 [i1, a1] [i2, a2]) (n1 : a1 ≠ i1) (n2 : a2 ≠ i2) :
    Turn P w K (.Tuple elts kk tpos) (Itx2 K t1 t2 a1 a2) [z, TI, TO, i1, i2] z (fun i h => IsZip h z TI TO .none ∧ IsTupOf2 h TI (.ref i1) (.ref i2) ∧ (∃ y1 y2, IsTupOf2 h TO y1 y2) ∧ ItX t1 h i1 a1 i ∧ ItX t2 h i2 a2 i) where
  mem := by simp
  obj := fun i h st c hc => by
    obtain ⟨hz, hTI, ⟨y1, y2, hTO⟩, h1, h2⟩ := st
    have e' : c = z ∨ c = TI ∨ c = TO ∨ c = i1 ∨ c = i2 := by simpa using hc
    rcases e' with q | q | q | q | q
    · rw [q]; exact ⟨_, hz, fun v q => nomatch q⟩
    · rw [q]; exact ⟨_, hTI, fun v q => nomatch q⟩
    · rw [q]; exact ⟨_, hTO, fun v q => nomatch q⟩
    · rw [q]; exact h1.obj
    · rw [q]; exact h2.obj
  keep := fun i h h' st k => by
    obtain ⟨hz, hTI, ⟨y1, y2, hTO⟩, h1, h2⟩ := st
    exact ⟨k z (by simp) _ hz, k TI (by simp) _ hTI, ⟨y1, y2, k TO (by simp) _ hTO⟩, h1.over fun o q => k i1 (by simp) o q, h2.over fun o q => k i2 (by simp) o q⟩
  item := by
    intro X hP hw hK hc i pins s σ H E I hf st hg
    subst hP hw hK
    obtain ⟨hz, hTI, ⟨y1, y2, hTO⟩, h1, h2⟩ := st
    obtain ⟨l1, l2, x1, x2, q1, q2, g1, g2⟩ := hg
    obtain ⟨s1, r1, p1, _⟩ := srcX I q1
    obtain ⟨u1, w1, v1⟩ := r1.get g1
    obtain ⟨s2, r2, p2, _⟩ := srcX I q2
    obtain ⟨u2, w2, v2⟩ := r2.get g2
    have hh : X.A.in1.handled = none := I.ok.hd hc
    have hzl : z < s.heap.objs.size := Heap.lt_size hz
    refine wpAny_pyNext_zipD2_item S (drawsX t1 hh i1 a1 n1 s1.toArray) (drawsX t2 hh i2 a2 n2 s2.toArray) hz hTI hTO ⟨h1, p1⟩ ⟨h2, p2⟩ (by have := (List.getElem?_eq_some_iff.mp w1).1; simpa using this) (by have := (List.getElem?_eq_some_iff.mp w2).1; simpa using this) fun z1 z2 h' tk e1 e2 z' TO' k1 k2 hT hsz hk => ?_
    obtain rfl : z1 = u1 := by
      rw [List.getElem?_toArray] at e1
      exact Option.some.inj (e1.symm.trans w1)
    obtain rfl : z2 = u2 := by
      rw [List.getElem?_toArray] at e2
      exact Option.some.inj (e2.symm.trans w2)
    refine ⟨_, rfl, wpAny_letOwnedTupleGo_zip (s := { s with heap := h', toks := tk }) z' fun h'' z'' sb => ?_⟩
    have hT2 : h''.get? s.heap.objs.size = some { cls := .type "tuple", data := .seq #[z1, z2] } := (sb.2 _ (Nat.ne_of_gt hzl)).trans hT
    have new : ObjOk X.prog X.w (upd H s.heap.objs.size (.tup [x1, x2])) h'' s.heap.objs.size (.tup [x1, x2]) :=
      ⟨by show 2 ≤ sizeLine; decide, [z1, z2], .cons v1 (.cons v2 .nil), ⟨_, hT2, rfl, _, rfl⟩⟩
    have I1 : Inv X pins σ (upd H s.heap.objs.size (.tup [x1, x2])) { s with heap := h'', toks := tk } :=
      I.turnedNew (t' := tk) (ch := [z, TI, TO, i1, i2]) (fun c o hb q => (sb.2 c (fun q' => hb (by simp [q']))).trans (hk c o (fun q' => hb (by simp [q'])) (fun q' => hb (by simp [q'])) (fun q' => hb (by simp [q'])) (fun q' => hb (by simp [q'])) q)) hf (Nat.le_refl _) new
    refine ⟨.ref s.heap.objs.size, _, I1, rfl, ⟨_, x1, x2, rfl, I.hok.fresh (Nat.le_refl _), rfl, fun l hl => by rw [injX I hl q1]; exact g1, fun l hl => by rw [injX I hl q2]; exact g2⟩, ⟨z'', ?_, ⟨z1, z2, ?_⟩, ?_, ?_⟩, fun c hcm => ?_⟩
    · exact (sb.2 _ S.TIz).trans (hk _ _ S.TIz S.TITO S.TIi1 S.TIi2 hTI)
    · exact (sb.2 _ S.TOz).trans TO'
    · exact k1.1.over fun o q => (sb.2 _ (Ne.symm S.zi1)).trans q
    · exact k2.1.over fun o q => (sb.2 _ (Ne.symm S.zi2)).trans q
    · have hlt : c < s.heap.objs.size := by
        have e' : c = z ∨ c = TI ∨ c = TO ∨ c = i1 ∨ c = i2 := by simpa using hcm
        rcases e' with q | q | q | q | q
        · rw [q]; exact hzl
        · rw [q]; exact Heap.lt_size hTI
        · rw [q]; exact Heap.lt_size hTO
        · rw [q]; obtain ⟨_, e1, _⟩ := h1.obj; exact Heap.lt_size e1
        · rw [q]; obtain ⟨_, e1, _⟩ := h2.obj; exact Heap.lt_size e1
      rw [upd_ne (Nat.ne_of_lt hlt)]
      exact (hf c hcm).1
  done := by
    intro X hP hw hK hc i pins s σ H E I hf st hg
    subst hP hw hK
    obtain ⟨hz, hTI, ⟨y1, y2, hTO⟩, h1, h2⟩ := st
    obtain ⟨l1, l2, q1, q2, b1, b2, hend⟩ := hg
    obtain ⟨s1, r1, p1, _⟩ := srcX I q1
    have c1 := r1.length
    obtain ⟨s2, r2, p2, _⟩ := srcX I q2
    have c2 := r2.length
    have hh : X.A.in1.handled = none := I.ok.hd hc
    refine wpAny_pyNext_zipD2_end S (drawsX t1 hh i1 a1 n1 s1.toArray) (drawsX t2 hh i2 a2 n2 s2.toArray) hz hTI hTO ⟨h1, p1⟩ ⟨h2, p2⟩ (by simp only [List.size_toArray]; omega) (by simp only [List.size_toArray]; omega) ?_ fun h' tk hk => ⟨rfl, I.turnedL (t' := tk) (ch := [z, TI, TO, i1, i2]) (fun c o hb q =>
      hk c o (fun q' => hb (by simp [q'])) (fun q' => hb (by simp [q'])) (fun q' => hb (by simp [q'])) (fun q' => hb (by simp [q'])) q) hf⟩
    simp only [List.size_toArray]
    omega
  self := fun A i s Q E st h => wpAny_pyIter_zip st.1 h
def iX2 (K : PySem.W.Frag) (ta : TA) : TI := fun σ H R => ta σ H fun vs H1 => ∃ (t1 t2 : Bool) (a1 a2 : Addr) (l1 l2 : List V), vs = [.ref a1, .ref a2] ∧ SqX K t1 H1 a1 l1 ∧ SqX K t2 H1 a2 l2 ∧ R (Itx2 K t1 t2 a1 a2) H1
theorem pi_x2 {X : Cx} {e1 e2 : Expr} {ta : TA} {p pos tpos : Pos} {elts : List Expr} {kk : Nat} (hg : Gl X "zip") (hm : X.mg "zip" = none) (ha : PA X [e1, e2] ta)
    (hs : starEach [e1, e2] X.env = (false, eval e1 X.env) :: starEach [e2] X.env := by rfl) (hpl : (backTo pos (starEach [e2] X.env)).any (·.1) = false := by rfl) :
    PI X (.Tuple elts kk tpos) (.Call (.Name "zip" p) [e1, e2] [] pos) (iX2 X.K ta) := by
  refine ⟨fun pins s σ H R I h => ?_⟩
  refine Call_ (ld_blt I hg hm PyProof.Rows.boot_zip (PyProof.Rows.callWith_type1 (thn (ha.run pos pins s σ H _ I h) fun us s1 ⟨vs, H1, I1, r1, q1⟩ => ?_) hs hpl))
  obtain ⟨t1, t2, a1, a2, l1, l2, ex, q1, q2, q⟩ := q1
  subst ex
  obtain ⟨u1, u2, rfl, ru1, ru2⟩ := valsX2 r1
  obtain rfl : u1 = Value.ref a1 := ru1
  obtain rfl : u2 = Value.ref a2 := ru2
  obtain ⟨ss1, r1, p1, lt1⟩ := srcX I1 q1
  obtain ⟨o1, B1, b1⟩ := beginsX t1 a1 ss1.toArray
  obtain ⟨ss2, r2, p2, lt2⟩ := srcX I1 q2
  obtain ⟨o2, B2, b2⟩ := beginsX t2 a2 ss2.toArray
  refine zip_begins2 B1 B2 p1 p2 fun h' hz hTI hTO g1 g2 hsz hk => wpAny_pyIter_zip hz ?_
  have I2 : Inv X pins σ H1 { s1 with heap := h' } := I1.kept (t' := s1.toks) hk
  refine ⟨s1.heap.objs.size + 4, [s1.heap.objs.size + 4, s1.heap.objs.size + 2, s1.heap.objs.size + 3, s1.heap.objs.size, s1.heap.objs.size + 1], _, _, H1, rfl, I2, turn_x2 (sepX2 _ _ _ lt1 lt2) (farX _ _ 0 lt1) (farX _ _ 1 lt2), ⟨hz, hTI, ⟨_, _, hTO⟩, b1 _ _ g1, b2 _ _ g2⟩, fun c hcm => ?_, q⟩
  have hle : s1.heap.objs.size ≤ c := lo5 hcm
  exact I1.fpOk hle (I1.hok.fresh hle)
theorem walk_x2 {K : PySem.W.Frag} {t1 t2 : Bool} {a1 a2 : Addr} {l1 l2 : List V} {n : Nat} (hn : n = min l1.length l2.length) : Walk (Itx2 K t1 t2 a1 a2) n (fun H => SqX K t1 H a1 l1 ∧ SqX K t2 H a2 l2) (fun i H v H' => ∃ T x1 x2, v = .ref T ∧ H T = none ∧ H' = upd H T (.tup [x1, x2]) ∧ l1[i]? = some x1 ∧ l2[i]? = some x2) := by
  subst hn
  refine ⟨fun i _ hi q => ?_, fun _ q => ⟨l1, l2, q.1, q.2, ?_⟩, fun i H v H' _ q y => ?_⟩
  · have h1 : i < l1.length := by omega
    have h2 : i < l2.length := by omega
    exact ⟨l1, l2, l1[i], l2[i], q.1, q.2, by simp [h1], by simp [h2]⟩
  · omega
  · obtain ⟨T, x1, x2, e1, e2, e3, f1, f2⟩ := y
    exact ⟨T, x1, x2, e1, e2, e3, f1 _ q.1, f2 _ q.2⟩

/-! ### 3 -/
def Itx3 (K : PySem.W.Frag) (t1 t2 t3 : Bool) (a1 a2 a3 : Addr) : It :=
  ⟨fun i H => ∃ (l1 l2 l3 : List V) (x1 x2 x3 : V), SqX K t1 H a1 l1 ∧ SqX K t2 H a2 l2 ∧ SqX K t3 H a3 l3 ∧ l1[i]? = some x1 ∧ l2[i]? = some x2 ∧ l3[i]? = some x3,
    fun i H v H' => ∃ T x1 x2 x3, v = .ref T ∧ H T = none ∧ H' = upd H T (.tup [x1, x2, x3]) ∧ (∀ l, SqX K t1 H a1 l → l[i]? = some x1) ∧ (∀ l, SqX K t2 H a2 l → l[i]? = some x2) ∧ (∀ l, SqX K t3 H a3 l → l[i]? = some x3),
    fun i H => ∃ l1 l2 l3 : List V, SqX K t1 H a1 l1 ∧ SqX K t2 H a2 l2 ∧ SqX K t3 H a3 l3 ∧ i ≤ l1.length ∧ i ≤ l2.length ∧ i ≤ l3.length ∧ (i = l1.length ∨ i = l2.length ∨ i = l3.length)⟩
theorem turn_x3 {P : Program} {w : World} {K : PySem.W.Frag} {elts : List Expr} {kk : Nat} {tpos : Pos} {t1 t2 t3 : Bool} {a1 a2 a3 z TI TO i1 i2 i3 : Addr} (S : ZipSep3 z TI TO i1 i2 i3 [i1, a1] [i2, a2] [i3, a3]) (n1 : a1 ≠ i1) (n2 : a2 ≠ i2) (n3 : a3 ≠ i3) :
    Turn P w K (.Tuple elts kk tpos) (Itx3 K t1 t2 t3 a1 a2 a3) [z, TI, TO, i1, i2, i3] z (fun i h => IsZip h z TI TO .none ∧ IsTupOf3 h TI (.ref i1) (.ref i2) (.ref i3) ∧ (∃ y1 y2 y3, IsTupOf3 h TO y1 y2 y3) ∧ ItX t1 h i1 a1 i ∧ ItX t2 h i2 a2 i ∧ ItX t3 h i3 a3 i) where
  mem := by simp
  obj := fun i h st c hc => by
    obtain ⟨hz, hTI, ⟨y1, y2, y3, hTO⟩, h1, h2, h3⟩ := st
    have e' : c = z ∨ c = TI ∨ c = TO ∨ c = i1 ∨ c = i2 ∨ c = i3 := by simpa using hc
    rcases e' with q | q | q | q | q | q
    · rw [q]; exact ⟨_, hz, fun v q => nomatch q⟩
    · rw [q]; exact ⟨_, hTI, fun v q => nomatch q⟩
    · rw [q]; exact ⟨_, hTO, fun v q => nomatch q⟩
    · rw [q]; exact h1.obj
    · rw [q]; exact h2.obj
    · rw [q]; exact h3.obj
  keep := fun i h h' st k => by
    obtain ⟨hz, hTI, ⟨y1, y2, y3, hTO⟩, h1, h2, h3⟩ := st
    exact ⟨k z (by simp) _ hz, k TI (by simp) _ hTI, ⟨y1, y2, y3, k TO (by simp) _ hTO⟩, h1.over fun o q => k i1 (by simp) o q, h2.over fun o q => k i2 (by simp) o q, h3.over fun o q => k i3 (by simp) o q⟩
  item := by
    intro X hP hw hK hc i pins s σ H E I hf st hg
    subst hP hw hK
    obtain ⟨hz, hTI, ⟨y1, y2, y3, hTO⟩, h1, h2, h3⟩ := st
    obtain ⟨l1, l2, l3, x1, x2, x3, q1, q2, q3, g1, g2, g3⟩ := hg
    obtain ⟨s1, r1, p1, _⟩ := srcX I q1
    obtain ⟨u1, w1, v1⟩ := r1.get g1
    obtain ⟨s2, r2, p2, _⟩ := srcX I q2
    obtain ⟨u2, w2, v2⟩ := r2.get g2
    obtain ⟨s3, r3, p3, _⟩ := srcX I q3
    obtain ⟨u3, w3, v3⟩ := r3.get g3
    have hh : X.A.in1.handled = none := I.ok.hd hc
    have hzl : z < s.heap.objs.size := Heap.lt_size hz
    refine wpAny_pyNext_zipD3_item S (drawsX t1 hh i1 a1 n1 s1.toArray) (drawsX t2 hh i2 a2 n2 s2.toArray) (drawsX t3 hh i3 a3 n3 s3.toArray) hz hTI hTO ⟨h1, p1⟩ ⟨h2, p2⟩ ⟨h3, p3⟩ (by have := (List.getElem?_eq_some_iff.mp w1).1; simpa using this) (by have := (List.getElem?_eq_some_iff.mp w2).1; simpa using this) (by have := (List.getElem?_eq_some_iff.mp w3).1; simpa using this) fun z1 z2 z3 h' tk e1 e2 e3 z' TO' k1 k2 k3 hT hsz hk => ?_
    obtain rfl : z1 = u1 := by
      rw [List.getElem?_toArray] at e1
      exact Option.some.inj (e1.symm.trans w1)
    obtain rfl : z2 = u2 := by
      rw [List.getElem?_toArray] at e2
      exact Option.some.inj (e2.symm.trans w2)
    obtain rfl : z3 = u3 := by
      rw [List.getElem?_toArray] at e3
      exact Option.some.inj (e3.symm.trans w3)
    refine ⟨_, rfl, wpAny_letOwnedTupleGo_zip (s := { s with heap := h', toks := tk }) z' fun h'' z'' sb => ?_⟩
    have hT2 : h''.get? s.heap.objs.size = some { cls := .type "tuple", data := .seq #[z1, z2, z3] } := (sb.2 _ (Nat.ne_of_gt hzl)).trans hT
    have new : ObjOk X.prog X.w (upd H s.heap.objs.size (.tup [x1, x2, x3])) h'' s.heap.objs.size (.tup [x1, x2, x3]) :=
      ⟨by show 3 ≤ sizeLine; decide, [z1, z2, z3], .cons v1 (.cons v2 (.cons v3 .nil)), ⟨_, hT2, rfl, _, rfl⟩⟩
    have I1 : Inv X pins σ (upd H s.heap.objs.size (.tup [x1, x2, x3])) { s with heap := h'', toks := tk } :=
      I.turnedNew (t' := tk) (ch := [z, TI, TO, i1, i2, i3]) (fun c o hb q => (sb.2 c (fun q' => hb (by simp [q']))).trans (hk c o (fun q' => hb (by simp [q'])) (fun q' => hb (by simp [q'])) (fun q' => hb (by simp [q'])) (fun q' => hb (by simp [q'])) (fun q' => hb (by simp [q'])) q)) hf (Nat.le_refl _) new
    refine ⟨.ref s.heap.objs.size, _, I1, rfl, ⟨_, x1, x2, x3, rfl, I.hok.fresh (Nat.le_refl _), rfl, fun l hl => by rw [injX I hl q1]; exact g1, fun l hl => by rw [injX I hl q2]; exact g2, fun l hl => by rw [injX I hl q3]; exact g3⟩, ⟨z'', ?_, ⟨z1, z2, z3, ?_⟩, ?_, ?_, ?_⟩, fun c hcm => ?_⟩
    · exact (sb.2 _ S.TIz).trans (hk _ _ S.TIz S.TITO S.TIi1 S.TIi2 S.TIi3 hTI)
    · exact (sb.2 _ S.TOz).trans TO'
    · exact k1.1.over fun o q => (sb.2 _ (Ne.symm S.zi1)).trans q
    · exact k2.1.over fun o q => (sb.2 _ (Ne.symm S.zi2)).trans q
    · exact k3.1.over fun o q => (sb.2 _ (Ne.symm S.zi3)).trans q
    · have hlt : c < s.heap.objs.size := by
        have e' : c = z ∨ c = TI ∨ c = TO ∨ c = i1 ∨ c = i2 ∨ c = i3 := by simpa using hcm
        rcases e' with q | q | q | q | q | q
        · rw [q]; exact hzl
        · rw [q]; exact Heap.lt_size hTI
        · rw [q]; exact Heap.lt_size hTO
        · rw [q]; obtain ⟨_, e1, _⟩ := h1.obj; exact Heap.lt_size e1
        · rw [q]; obtain ⟨_, e1, _⟩ := h2.obj; exact Heap.lt_size e1
        · rw [q]; obtain ⟨_, e1, _⟩ := h3.obj; exact Heap.lt_size e1
      rw [upd_ne (Nat.ne_of_lt hlt)]
      exact (hf c hcm).1
  done := by
    intro X hP hw hK hc i pins s σ H E I hf st hg
    subst hP hw hK
    obtain ⟨hz, hTI, ⟨y1, y2, y3, hTO⟩, h1, h2, h3⟩ := st
    obtain ⟨l1, l2, l3, q1, q2, q3, b1, b2, b3, hend⟩ := hg
    obtain ⟨s1, r1, p1, _⟩ := srcX I q1
    have c1 := r1.length
    obtain ⟨s2, r2, p2, _⟩ := srcX I q2
    have c2 := r2.length
    obtain ⟨s3, r3, p3, _⟩ := srcX I q3
    have c3 := r3.length
    have hh : X.A.in1.handled = none := I.ok.hd hc
    refine wpAny_pyNext_zipD3_end S (drawsX t1 hh i1 a1 n1 s1.toArray) (drawsX t2 hh i2 a2 n2 s2.toArray) (drawsX t3 hh i3 a3 n3 s3.toArray) hz hTI hTO ⟨h1, p1⟩ ⟨h2, p2⟩ ⟨h3, p3⟩ (by simp only [List.size_toArray]; omega) (by simp only [List.size_toArray]; omega) (by simp only [List.size_toArray]; omega) ?_ fun h' tk hk => ⟨rfl, I.turnedL (t' := tk) (ch := [z, TI, TO, i1, i2, i3]) (fun c o hb q =>
      hk c o (fun q' => hb (by simp [q'])) (fun q' => hb (by simp [q'])) (fun q' => hb (by simp [q'])) (fun q' => hb (by simp [q'])) (fun q' => hb (by simp [q'])) q) hf⟩
    simp only [List.size_toArray]
    omega
  self := fun A i s Q E st h => wpAny_pyIter_zip st.1 h
def iX3 (K : PySem.W.Frag) (ta : TA) : TI := fun σ H R => ta σ H fun vs H1 => ∃ (t1 t2 t3 : Bool) (a1 a2 a3 : Addr) (l1 l2 l3 : List V), vs = [.ref a1, .ref a2, .ref a3] ∧ SqX K t1 H1 a1 l1 ∧ SqX K t2 H1 a2 l2 ∧ SqX K t3 H1 a3 l3 ∧ R (Itx3 K t1 t2 t3 a1 a2 a3) H1
theorem pi_x3 {X : Cx} {e1 e2 e3 : Expr} {ta : TA} {p pos tpos : Pos} {elts : List Expr} {kk : Nat} (hg : Gl X "zip") (hm : X.mg "zip" = none) (ha : PA X [e1, e2, e3] ta)
    (hs : starEach [e1, e2, e3] X.env = (false, eval e1 X.env) :: starEach [e2, e3] X.env := by rfl) (hpl : (backTo pos (starEach [e2, e3] X.env)).any (·.1) = false := by rfl) :
    PI X (.Tuple elts kk tpos) (.Call (.Name "zip" p) [e1, e2, e3] [] pos) (iX3 X.K ta) := by
  refine ⟨fun pins s σ H R I h => ?_⟩
  refine Call_ (ld_blt I hg hm PyProof.Rows.boot_zip (PyProof.Rows.callWith_type1 (thn (ha.run pos pins s σ H _ I h) fun us s1 ⟨vs, H1, I1, r1, q1⟩ => ?_) hs hpl))
  obtain ⟨t1, t2, t3, a1, a2, a3, l1, l2, l3, ex, q1, q2, q3, q⟩ := q1
  subst ex
  obtain ⟨u1, u2, u3, rfl, ru1, ru2, ru3⟩ := valsX3 r1
  obtain rfl : u1 = Value.ref a1 := ru1
  obtain rfl : u2 = Value.ref a2 := ru2
  obtain rfl : u3 = Value.ref a3 := ru3
  obtain ⟨ss1, r1, p1, lt1⟩ := srcX I1 q1
  obtain ⟨o1, B1, b1⟩ := beginsX t1 a1 ss1.toArray
  obtain ⟨ss2, r2, p2, lt2⟩ := srcX I1 q2
  obtain ⟨o2, B2, b2⟩ := beginsX t2 a2 ss2.toArray
  obtain ⟨ss3, r3, p3, lt3⟩ := srcX I1 q3
  obtain ⟨o3, B3, b3⟩ := beginsX t3 a3 ss3.toArray
  refine zip_begins3 B1 B2 B3 p1 p2 p3 fun h' hz hTI hTO g1 g2 g3 hsz hk => wpAny_pyIter_zip hz ?_
  have I2 : Inv X pins σ H1 { s1 with heap := h' } := I1.kept (t' := s1.toks) hk
  refine ⟨s1.heap.objs.size + 5, [s1.heap.objs.size + 5, s1.heap.objs.size + 3, s1.heap.objs.size + 4, s1.heap.objs.size, s1.heap.objs.size + 1, s1.heap.objs.size + 2], _, _, H1, rfl, I2, turn_x3 (sepX3 _ _ _ _ lt1 lt2 lt3) (farX _ _ 0 lt1) (farX _ _ 1 lt2) (farX _ _ 2 lt3), ⟨hz, hTI, ⟨_, _, _, hTO⟩, b1 _ _ g1, b2 _ _ g2, b3 _ _ g3⟩, fun c hcm => ?_, q⟩
  have hle : s1.heap.objs.size ≤ c := lo6 hcm
  exact I1.fpOk hle (I1.hok.fresh hle)
theorem walk_x3 {K : PySem.W.Frag} {t1 t2 t3 : Bool} {a1 a2 a3 : Addr} {l1 l2 l3 : List V} {n : Nat} (hn : n = min (min l1.length l2.length) l3.length) : Walk (Itx3 K t1 t2 t3 a1 a2 a3) n (fun H => SqX K t1 H a1 l1 ∧ SqX K t2 H a2 l2 ∧ SqX K t3 H a3 l3) (fun i H v H' => ∃ T x1 x2 x3, v = .ref T ∧ H T = none ∧ H' = upd H T (.tup [x1, x2, x3]) ∧ l1[i]? = some x1 ∧ l2[i]? = some x2 ∧ l3[i]? = some x3) := by
  subst hn
  refine ⟨fun i _ hi q => ?_, fun _ q => ⟨l1, l2, l3, q.1, q.2.1, q.2.2, ?_⟩, fun i H v H' _ q y => ?_⟩
  · have h1 : i < l1.length := by omega
    have h2 : i < l2.length := by omega
    have h3 : i < l3.length := by omega
    exact ⟨l1, l2, l3, l1[i], l2[i], l3[i], q.1, q.2.1, q.2.2, by simp [h1], by simp [h2], by simp [h3]⟩
  · omega
  · obtain ⟨T, x1, x2, x3, e1, e2, e3, f1, f2, f3⟩ := y
    exact ⟨T, x1, x2, x3, e1, e2, e3, f1 _ q.1, f2 _ q.2.1, f3 _ q.2.2⟩
theorem tup_in {X : Cx} {K : PySem.W.Frag} {es : List Expr} {k : Nat} {t : TGs} {n : Nat} {pos : Pos} (hK : X.K = K) (hc : X.calm = true) (h : PGs X es t) (k1 : (assignEach es X.env).length = n := by rfl) (k2 : (assignEach es X.env).findIdx? (·.1) = none := by rfl) : PG X (.Tuple es k pos) (gTup K n t) := by
  subst hK
  exact pg_tup hc h k1 k2
end Tw

/-! Steps from one number to another. -/
namespace Tw
open PySem PySem.Spec PyProof.Rows L2
/-- what steps_to tells of a start and a number -/
def stV (t p m s n : Int) : V := if n ∈ (rndW t p m s).1 then .int (((rndW t p m s).1.idxOf n : Nat) : Int) else .non
def pSteps (K : PySem.W.Frag) (CN : Addr) : V → V → V → Hp → VK → XK → Prop := fun a b c H Q E => ∃ (r : Addr) (t p m s n : Int), a = .ref r ∧ b = .int s ∧ c = .int n ∧ SqT K H r [.int t, .int p, .int m] ∧ Rule t p m ∧ m ≤ 1000000 ∧
  ((0 ≤ s ∧ s < m) → (0 ≤ n ∧ n < m) → ∀ H', Same H H' → Q (stV t p m s n) H') ∧ (¬ (0 ≤ s ∧ s < m) → Bad CN s H E) ∧ ((0 ≤ s ∧ s < m) → ¬ (0 ≤ n ∧ n < m) → Bad CN n H E)
def seenD (ws : List Int) : List (Key × V) := ws.map fun x => (Sum.inl x, V.bl true)
theorem seenD_none : ∀ {ws : List Int} {x : Int}, x ∉ ws → valV (seenD ws) (Sum.inl x) = none
  | [], _, _ => rfl
  | w :: ws, x, h => by
    show valV ((Sum.inl w, V.bl true) :: seenD ws) (Sum.inl x) = none
    rw [valV_neg (fun e => h (by rw [← Sum.inl.inj e]; exact List.mem_cons_self))]
    exact seenD_none (fun hm => h (List.mem_cons_of_mem _ hm))
theorem seenD_some : ∀ {ws : List Int} {x : Int}, x ∈ ws → valV (seenD ws) (Sum.inl x) = some (.bl true)
  | w :: ws, x, h => by
    show valV ((Sum.inl w, V.bl true) :: seenD ws) (Sum.inl x) = _
    by_cases e : w = x
    · subst e
      rw [valV_pos rfl]
    · rw [valV_neg (fun z => e (Sum.inl.inj z)), seenD_some ((List.mem_cons.mp h).resolve_left (fun z => e z.symm))]
theorem seenD_snoc (ws : List Int) (x : Int) : seenD (ws ++ [x]) = seenD ws ++ [(Sum.inl x, V.bl true)] := List.map_append
def pRowL (K : PySem.W.Frag) : V → V → Hp → VK → XK → Prop := fun a b H Q _ => ∃ (r : Addr) (t p m s : Int), a = .ref r ∧ b = .int s ∧ SqT K H r [.int t, .int p, .int m] ∧ Rule t p m ∧ m ≤ 1000000 ∧ 0 ≤ s ∧ s < m ∧
  ∀ H' q, Same H H' → H q = none → H' q = some (.lst ((rndW t p m s).1.map V.int)) → Q (.ref q) H'
def pTold (K : PySem.W.Frag) : V → V → V → Hp → VK → XK → Prop := fun a b c H Q _ => ∃ (r : Addr) (t p m s n : Int), a = .ref r ∧ b = .int s ∧ c = .int n ∧ SqT K H r [.int t, .int p, .int m] ∧ Rule t p m ∧ m ≤ 1000000 ∧
  ((0 ≤ s ∧ s < m) → (0 ≤ n ∧ n < m) → ∀ H' q, Same H H' → H q = none → H' q = some (.lst [stV t p m s n]) → Q (.ref q) H') ∧
  (¬ (0 ≤ s ∧ s < m) → ∀ H' q, Same H H' → H q = none → H' q = some (.tup [.str "number", .int s]) → Q (.ref q) H') ∧
  ((0 ≤ s ∧ s < m) → ¬ (0 ≤ n ∧ n < m) → ∀ H' q, Same H H' → H q = none → H' q = some (.tup [.str "number", .int n]) → Q (.ref q) H')
theorem eqV_int (a b : Int) : eqV (.int a) (.int b) = (a == b) := rfl
theorem flat_ints (ns : List Int) : (ns.map V.int).all flatV = true := by
  rw [List.all_eq_true]
  intro x hx
  obtain ⟨y, _, rfl⟩ := List.mem_map.mp hx
  rfl
theorem inV_ints (n : Int) (ns : List Int) : inV (.int n) (ns.map V.int) = decide (n ∈ ns) := by
  unfold inV
  rw [Bool.eq_iff_iff, List.any_eq_true, decide_eq_true_eq]
  constructor
  · rintro ⟨x, hx, e⟩
    obtain ⟨y, hy, rfl⟩ := List.mem_map.mp hx
    have : y = n := by simpa [eqV_int] using e
    exact this ▸ hy
  · intro h
    exact ⟨.int n, List.mem_map.mpr ⟨n, h, rfl⟩, by simp [eqV_int]⟩
/-- the first place of a number in a list of ints, as index asks it -/
theorem idx_ints {n : Int} {ns : List Int} (h : n ∈ ns) : (ns.map V.int)[ns.idxOf n]? = some (.int n) ∧ ∀ (j : Nat) (z : V), j < ns.idxOf n → (ns.map V.int)[j]? = some z → eqV z (.int n) = false := by
  have hl := List.idxOf_lt_length_of_mem h
  constructor
  · rw [List.getElem?_map, List.getElem?_eq_getElem hl, List.getElem_idxOf hl]
    rfl
  · intro j z hj hz
    rw [List.getElem?_map] at hz
    have jl : j < ns.length := by omega
    rw [List.getElem?_eq_getElem jl] at hz
    obtain rfl : V.int ns[j] = z := Option.some.inj hz
    rw [eqV_int]
    refine beq_eq_false_iff_ne.mpr fun e => ?_
    have := List.not_of_lt_findIdx (p := fun x => x == n) (xs := ns) (i := j) hj
    simp [e] at this
theorem idx_app {n : Int} {ns : List Int} (h : n ∈ ns) : (ns ++ [n]).idxOf n = ns.idxOf n := by
  rw [List.idxOf_append, if_pos h]
end Tw

/-! Rows, and rests by taking away. -/
namespace Tw
open PySem PySem.Spec PyProof.Rows L2
def itr (f : Int → Int) : Nat → Int → Int
  | 0, x => x
  | n + 1, x => f (itr f n x)
def orb (f : Int → Int) (n : Nat) (x : Int) : List Int := (List.range n).map fun i => itr f i x
theorem orb_succ (f : Int → Int) (n : Nat) (x : Int) : orb f (n + 1) x = orb f n x ++ [itr f n x] := by
  unfold orb
  rw [List.range_succ, List.map_append]
  rfl
theorem orb_len (f : Int → Int) (n : Nat) (x : Int) : (orb f n x).length = n := by
  unfold orb
  rw [List.length_map, List.length_range]
theorem itr_rng {t p m s : Int} (m0 : 0 < m) (h : 0 ≤ s ∧ s < m) : ∀ n, 0 ≤ itr (stp t p m) n s ∧ itr (stp t p m) n s < m
  | 0 => h
  | n + 1 => stp_rng m0 _
def pRowFrom (K : PySem.W.Frag) (CN : Addr) : V → V → V → Hp → VK → XK → Prop := fun a b c H Q E => ∃ (r : Addr) (t p m s n : Int), a = .ref r ∧ b = .int s ∧ c = .int n ∧ SqT K H r [.int t, .int p, .int m] ∧ Rule t p m ∧ 0 ≤ n ∧ n ≤ 100000 ∧
  (0 ≤ s → s < m → ∀ H' q, Same H H' → H q = none → H' q = some (.tup ((orb (stp t p m) n.toNat s).map V.int)) → Q (.ref q) H') ∧ (¬ (0 ≤ s ∧ s < m) → Bad CN s H E)
def pRowLaw (K : PySem.W.Frag) : V → V → V → Hp → VK → XK → Prop := fun a b c H Q _ => ∃ (r : Addr) (t p m s n : Int), a = .ref r ∧ b = .int s ∧ c = .int n ∧ SqT K H r [.int t, .int p, .int m] ∧ Rule t p m ∧ 0 ≤ n ∧ n ≤ 100000 ∧ 0 ≤ s ∧ s < m ∧
  ∀ H' q, Same H H' → H q = none → H' q = some (.tup ((orb (stp t p m) n.toNat s).map V.int)) → Q (.ref q) H'
def pRest : V → V → Hp → VK → XK → Prop := fun a b H Q _ => ∃ x m : Int, a = .int x ∧ b = .int m ∧ 0 ≤ x ∧ x < 10000000000000000000000000 ∧ 1 ≤ m ∧ m ≤ 1000000000000 ∧ ∀ H', Same H H' → Q (.int (x % m)) H'
def pWhole2 : V → V → Hp → VK → XK → Prop := fun a b H Q _ => ∃ x : Int, a = .int x ∧ b = .int x ∧ Q (.bl true) H
def pRef2 (K : PySem.W.Frag) : V → V → V → Hp → VK → XK → Prop := fun a b c H Q _ => ∃ (r : Addr) (t p m n k : Int), a = .ref r ∧ b = .int n ∧ c = .int k ∧ SqT K H r [.int t, .int p, .int m] ∧ Rule t p m ∧ 0 ≤ k ∧ k ≤ 100000 ∧ (n < 0 ∨ m ≤ n) ∧ ∀ H', Same H H' → Q (.bl true) H'
theorem lay_ints : ∀ ns : List Int, PyData.canLayAll0 (ns.map PyData.int) = true ∧ PyData.depthAll (ns.map PyData.int) = 0
  | [] => ⟨rfl, rfl⟩
  | n :: ns => by
    obtain ⟨h1, h2⟩ := lay_ints ns
    constructor
    · show (PyData.canLay0 (.int n) && PyData.canLayAll0 (ns.map PyData.int)) = true
      rw [h1]
      rfl
    · show max (PyData.depth (.int n)) (PyData.depthAll (ns.map PyData.int)) = 0
      rw [h2]
      rfl
theorem shp_ints (ns : List Int) : SeqAt.shaped (.tuple (ns.map PyData.int)) = true := by
  obtain ⟨h1, h2⟩ := lay_ints ns
  show (PyData.canLayAll0 (ns.map PyData.int) && decide (PyData.depthAll (ns.map PyData.int) + 1 ≤ 64)) = true
  rw [h1, h2]
  rfl
theorem shp_lints (ns : List Int) : SeqAt.shaped (.list (ns.map PyData.int)) = true := by
  obtain ⟨h1, h2⟩ := lay_ints ns
  show (PyData.canLayAll0 (ns.map PyData.int) && decide (PyData.depthAll (ns.map PyData.int) + 1 ≤ 64)) = true
  rw [h1, h2]
  rfl
theorem two_pos (k : Nat) : (1 : Int) ≤ 2 ^ k := Int.pow_pos (by decide)
theorem two_small {k : Nat} {b x : Int} (hb : 1 ≤ b) (h : 2 ^ k * b ≤ x) (hx : x < 10000000000000000000000000) : k < 84 := by
  refine Nat.lt_of_not_le fun hk => ?_
  obtain ⟨j, rfl⟩ : ∃ j, k = 84 + j := ⟨k - 84, by omega⟩
  have e : (2 : Int) ^ (84 + j) = 2 ^ 84 * 2 ^ j := Int.pow_add ..
  have h1 := two_pos j
  have h2 : (2 : Int) ^ 84 * 1 ≤ 2 ^ 84 * 2 ^ j := Int.mul_le_mul_of_nonneg_left h1 (by decide)
  have h3 : (2 : Int) ^ (84 + j) * 1 ≤ 2 ^ (84 + j) * b := Int.mul_le_mul_of_nonneg_left hb (by have := two_pos (84 + j); omega)
  have h4 : (2 : Int) ^ 84 = 19342813113834066795298816 := by decide
  omega
def dbl (b : Int) (k : Nat) : List Int := (List.range (k + 1)).map fun i => 2 ^ i * b
theorem dbl_succ (b : Int) (k : Nat) : dbl b (k + 1) = dbl b k ++ [2 * (2 ^ k * b)] := by
  unfold dbl
  rw [List.range_succ (n := k + 1), List.map_append]
  show _ ++ [2 ^ (k + 1) * b] = _
  rw [Int.pow_succ, Int.mul_comm (2 ^ k) 2, Int.mul_assoc]
theorem dbl_last (b : Int) : ∀ k, ∃ l, dbl b k = l ++ [2 ^ k * b]
  | 0 => ⟨[], rfl⟩
  | k + 1 => ⟨dbl b k, by rw [dbl_succ, Int.pow_succ, Int.mul_comm (2 ^ k) 2, Int.mul_assoc]⟩
theorem dbl_len (b : Int) (k : Nat) : (dbl b k).length = k + 1 := by
  unfold dbl
  rw [List.length_map, List.length_range]
theorem dbl_rev {b : Int} {k i : Nat} (h : i ≤ k) : (dbl b k).reverse[i]? = some (2 ^ (k - i) * b) := by
  rw [List.getElem?_reverse (by rw [dbl_len]; omega), dbl_len]
  unfold dbl
  rw [List.getElem?_map, List.getElem?_range (by omega)]
  show some (2 ^ (k + 1 - 1 - i) * b) = _
  rw [show k + 1 - 1 - i = k - i by omega]
theorem two_half {b : Int} {k i : Nat} (h : i ≤ k) : (2 : Int) ^ (k + 1 - i) * b = 2 * (2 ^ (k - i) * b) := by
  rw [show k + 1 - i = (k - i) + 1 by omega, Int.pow_succ, Int.mul_comm (2 ^ (k - i)) 2, Int.mul_assoc]
end Tw

/-! Rules of my own: set(list of ints), sorted(set) and sorted(d.items()) of any size. -/
namespace Tw
open PySem PySem.Spec PyProof.Rows L2
/-- a set as it is made -/
abbrev noneYet (w : World) : Obj := { cls := .type "set", dict := none, data := .set #[] 0 (.fresh 0 0 (!w.params.followText "set-order")) }
section
variable {P : Program} {w : World} {A : Around} {E : Value → Shared → Prop} {s : Shared}
theorem set_made {q : Addr} {xs : Array Value} (ks : List Int) {Q : Value → Shared → Prop} (nh : A.handled = none) (hq : s.heap.IsList q xs) (hx : IntsAre xs.toList ks) (few : ks.length + 1 < scanBound)
    (go : ∀ (g : Heap) (k c : Nat), SetR w g s.heap.objs.size (fun j => decide (j ∈ ks)) c → (∀ b o, s.heap.get? b = some o → g.get? b = some o) → Q (.ref s.heap.objs.size) { s with heap := g, toks := k }) :
    wpAny (model P w) A (call (.type "set") [.ref q]) Q E s := by
  have sz : xs.size = ks.length := (Array.length_toList (xs := xs)).symm.trans (IntsAre.length hx)
  have at_ : ∀ (i : Nat) (v : Value), xs[i]? = some v → ∃ k t, ks[i]? = some k ∧ v = .int k t := by
    intro i v hv
    have il : i < ks.length := by
      rw [← sz]
      exact (Array.getElem?_eq_some_iff.mp hv).1
    obtain ⟨t, e⟩ := PyProof.Rows.IntsAre.int_at hx i v ((Array.getElem?_toList).trans hv)
    refine ⟨ks[i], t, List.getElem?_eq_getElem il, e.trans ?_⟩
    rw [List.getD_eq_getElem?_getD, List.getElem?_eq_getElem il]
    rfl
  have new0 : (s.heap.push (noneYet w)).get? s.heap.objs.size = some (noneYet w) := Heap.get?_push_size _ rfl
  obtain ⟨_, _, m1⟩ := F.called_set.mro
  have m2 := F.called_set.made
  have m3 := F.called_set.sub
  have m4 := F.called_set.notType
  have m5 := F.called_set.canCreate
  have m6 := F.typeCall_set_1 (.ref q)
  refine wpAny_call (codeAny_of_tree ?_)
  show wpAny _ _ (callAny (.type "set") _) _ _ _
  refine wpAny_pure ⟨Code.quiet_builtin _ (by decide +kernel), codeAny_builtin F.entry_type_call ?_⟩
  rw [Around.under_plain (weight_type_call_type "set" [.ref q] []) rfl]
  repeat (any_goals (first | assumption | wp_step))
  refine codeAny_mono (code_set_led1 (.ref q) (E := E) (Q₁ := fun o s1 => o = .ref s.heap.objs.size ∧ s1 = { s with heap := s.heap.push (noneYet w) }) ⟨rfl, rfl⟩) fun r s1 h1 => ?_
  cases r with
  | error e => exact h1
  | ok fl =>
    cases fl with
    | ret o =>
      obtain ⟨rfl, rfl⟩ := h1
      have ty : Shared.TypeIs { s with heap := s.heap.push (noneYet w) } (.ref s.heap.objs.size) "set" := ⟨_, new0, rfl⟩
      have n1 := F.called_set.init.lookup
      have n2 := F.called_set.init.bind (.ref s.heap.objs.size)
      repeat (any_goals (first | assumption | wp_step))
      refine codeAny_mono (codeAny_call_builtin (R := wants (fun v s2 => v = .none ∧ ∃ g k c, s2 = { s with heap := g, toks := k } ∧ SetR w g s.heap.objs.size (fun j => decide (j ∈ ks)) c ∧ (∀ b o, s.heap.get? b = some o → g.get? b = some o)) E)
        F.called_set.init.plain F.entry_set_init (check_set_init_1 ty ?_)) fun r2 s2 h2 => ?_
      · obtain ⟨⟨oc, od, oa, os⟩, gq, cq, nq, dq⟩ := hq
        simp only at cq dq
        subst cq dq
        have gq1 : (s.heap.push (noneYet w)).get? q = some { cls := .type "list", dict := od, data := .seq xs nq, slots := os } := Heap.get?_push_of_some _ gq
        have u1 := F.sub_list_set
        have u2 := F.sub_list_frozenset
        have u3 : (Value.type "list" == Value.type "dict") = false := by decide
        have lq : (s.heap.push (noneYet w)).IsList q xs := ⟨_, gq1, rfl, nq, rfl⟩
        have below : q < s.heap.objs.size := Heap.lt_size gq
        have sz1 : (s.heap.push (noneYet w)).objs.size = s.heap.objs.size + 1 := Heap.size_push ..
        have nh3 : A.in1.in1.in1.handled = none := by simp [nh]
        unfold Builtin.«set.__init__» noKeywords Builtin.Frozenset.updateFrom
        generalize hIt : pyIter = It
        wp_walk
        subst hIt
        refine wpAny_pyIter_list lq ?_
        refine wpAny_bind (wpAny_runValue ?_)
        have ne1 : q ≠ (s.heap.push (noneYet w)).objs.size := by rw [sz1]; exact Nat.ne_of_lt (Nat.lt_succ_of_lt below)
        have ne2 : s.heap.objs.size ∉ [(s.heap.push (noneYet w)).objs.size, q] := by
          rw [sz1]
          intro z
          rcases List.mem_cons.mp z with z | z
          · omega
          · exact absurd (List.mem_singleton.mp z).symm (Nat.ne_of_lt below)
        refine set_update_ints ((Walks.list nh3 _ q ne1 xs).toS) s.heap.objs.size ne2 ks sz few at_ xs.size 0 _ (by omega) (Nat.zero_le _) ⟨⟨_, Heap.get?_push_size _ rfl, rfl, rfl⟩, lq.push _⟩ ⟨0, Nat.le_refl 0, setR_new_at (Heap.get?_push_of_some _ new0)⟩ ?_
        intro s3 c mv _ R3
        obtain ⟨g, gn, dr, k, ox⟩ := s3
        have e1 : gn = s.gens := mv.gens
        have e2 : dr = s.drawn := mv.drawn
        have e3 : ox = s.os := mv.os
        subst e1 e2 e3
        show wpAny _ _ _ _ _ _
        refine wpAny_pure ?_
        show wpAny _ _ (ret Value.none) _ _ _
        refine wpAny_pure ⟨rfl, g, k, c, rfl, R3, fun b o e => ?_⟩
        have lb := Heap.lt_size e
        refine mv.heap b o (fun z => ?_) (Heap.get?_push_of_some _ (Heap.get?_push_of_some _ e))
        rcases List.mem_cons.mp z with z | z
        · exact absurd z (Nat.ne_of_lt lb)
        · rw [List.mem_singleton, sz1] at z
          exact absurd z (Nat.ne_of_lt (Nat.lt_succ_of_lt lb))
      · cases r2 with
        | error e => exact h2
        | ok fl2 =>
          cases fl2 with
          | ret v =>
            obtain ⟨rfl, g, k, c, rfl, R3, kp⟩ := h2
            repeat (any_goals (first | assumption | wp_step))
            exact go _ _ _ R3 kp
          | _ => exact h2.elim
    | _ => exact h1.elim
end
/-- set(xs), ints -/
def rSetI (K : PySem.W.Frag) (w : World) : List V → Hp → VK → Prop := fun vs H Q => ∃ (l : Addr) (ns : List Int), vs = [.ref l] ∧ SqL K H l (ns.map V.int) ∧ ns.length ≤ 4000 ∧ ∀ p c, H p = none → Q (.ref p) (upd H p (SetO w p (fun j => decide (j ∈ ns)) c))
theorem cr_setI {X : Cx} (hc : X.calm = true) : CallR X (.type "set") (rSetI X.K X.w) := by
  intro pins s σ H vs us Q I r h
  obtain ⟨l, ns, rfl, hs, few, q⟩ := h
  obtain ⟨its, rv, hl, hz⟩ := I.list hs
  rw [Vals.ref1 r]
  refine set_made ns (I.ok.hd hc) hl.isList (by simpa using ints_of_vals rv) (by unfold scanBound; omega) fun g k c R kp => ?_
  exact ⟨.ref _, upd H s.heap.objs.size (SetO X.w s.heap.objs.size (fun j => decide (j ∈ ns)) c), I.laid (t' := k) kp (Nat.le_refl _) (setO_new R), rfl, q _ c (I.hok.fresh (Nat.le_refl _))⟩
/-- sorted(a set of ints) -/
def rSrtSet (w : World) : List V → Hp → VK → Prop := fun vs H Q => ∃ (a : Addr) (S : Int → Bool) (n : Nat), vs = [V.ref a] ∧ H a = some (SetO w a S n) ∧
  ∀ (ns : List Int) (p : Addr), ns.Pairwise (· < ·) → (∀ k : Int, k ∈ ns ↔ S k = true) → ns.length = n → H p = none → Q (.ref p) (upd H p (.lst (ns.map V.int)))
theorem rising {ns : List Int} (h : ns.Pairwise (· ≤ ·)) (nd : ns.Nodup) : ns.Pairwise (· < ·) := by
  rw [List.nodup_iff_pairwise_ne] at nd
  exact (h.and nd).imp fun {a b} z => by have := z.1; have := z.2; omega
theorem cr_srtSet {X : Cx} (hc : X.calm = true) : CallR X (.builtin "sorted") (rSrtSet X.w) := by
  intro pins s σ H vs us Q I r h
  obtain ⟨a, S, n, rfl, ha, q⟩ := h
  obtain ⟨o, es, ep, t, ho, hex, hd, g, nd, hm, hb, hf, hn, hr, hl⟩ := setO_get I ha
  rw [Vals.ref1 r]
  have nlt : n < 4096 := by rw [← hn]; exact hb
  refine Calls.call_function_entry kind_sorted plain_sorted entry_sorted (args_sorted1 _) ?_
  unfold Builtin.«sorted»
  refine wpAny_bind (m := checkCount "sorted" 1 1 _) (wpAny_pure ?_)
  refine wpAny_bind (collect_set (A := X.A.in1) (I.ok.hd hc) ⟨o, ho, hex.1, hd⟩ hf hb hr hl fun s1 us k1 z1 g1 o1 pm => ?_)
  have ul : us.length = n := by rw [pm.length_eq, List.length_map, Array.length_toList]; exact hn
  have ui : ∀ v ∈ us, ∃ i t, v = Value.int i t := fun v hv => by
    obtain ⟨e, he, rfl⟩ := List.mem_map.mp (pm.mem_iff.mp hv)
    obtain ⟨k, tk, h1, _⟩ := g e he
    exact ⟨k, tk, h1⟩
  have hI := SrtO.ints_iv ui
  have pk : (us.map SrtO.iv).Perm (es.toList.map keyOf) := by
    have z := pm.map SrtO.iv
    rw [List.map_map] at z
    refine z.trans (List.Perm.of_eq (List.map_congr_left fun e he => ?_))
    obtain ⟨k, tk, h1, _⟩ := g e he
    show SrtO.iv e.2 = keyOf e
    unfold keyOf
    rw [h1]
    rfl
  refine wpAny_bind (wpAny_newList ?_ (by rw [ul, sizeLine_eq]; omega))
  have top : (s1.heap.push (seqObj "list" us.toArray 0)).get? s1.heap.objs.size = some (seqObj "list" us.toArray 0) := Heap.get?_push_size _ rfl
  refine wpAny_bind (wpAny_holding (wpAny_call_entry slot_list_sort ⟨_, top, rfl⟩ entry_list_sort (SrtO.list_sort_ord SrtO.swo_int top (by rw [ul, sizeLine_eq]; omega) (fun l2 => SrtO.ints_sortable hI l2) fun out h1 h2 => ⟨_, rfl, ?_⟩) (args_list_sort _)))
  obtain ⟨k2, k3, k4⟩ := SrtO.ints_out hI h1 h2
  obtain ⟨c, hcc⟩ := sortedHeap_at (vs := us) (out := out.toArray) top
  have pn := k3.trans pk
  have nn : H s1.heap.objs.size = none := I.hok.fresh z1
  refine wpAny_pure ⟨_, rfl, .ref s1.heap.objs.size, upd H s1.heap.objs.size (.lst ((out.map SrtO.iv).map V.int)), ?_, rfl, q _ _ (rising k4 (pn.nodup_iff.mpr nd)) (fun k => by rw [pn.mem_iff, hm k]) (by rw [pn.length_eq, List.length_map, Array.length_toList]; exact hn) nn⟩
  have kp : ∀ b u, s.heap.get? b = some u → (sortedHeap (s1.heap.push (seqObj "list" us.toArray 0)) s1.heap.objs.size us out.toArray).get? b = some u := fun b u e => by
    have e1 := k1 b u e
    have lb := Heap.lt_size e1
    rw [sortedHeap_old (Nat.ne_of_lt lb) (by rw [size_push']; exact Nat.lt_succ_of_lt lb)]
    exact Heap.get?_push_of_some _ e1
  have J := I.call' (s' := { s1 with heap := sortedHeap (s1.heap.push (seqObj "list" us.toArray 0)) s1.heap.objs.size us out.toArray }) (ch := []) (H' := upd H s1.heap.objs.size (.lst ((out.map SrtO.iv).map V.int))) o1 (Un.laid kp z1 nn) (I.hok.laid kp z1 ⟨by
    rw [List.length_map, pn.length_eq, List.length_map, Array.length_toList, hn, sizeLine_eq]
    omega, out, c, vals_of_ints k2, hcc⟩) (by show AllBare s1.gens; rw [g1]; exact I.bare) (fun _ z => nomatch z)
  exact J
end Tw

/-! sorted(d.items()), ints to ints, of any size. -/
namespace Tw
open PySem PySem.Spec PyProof.Rows L2 L2.DX
def dInts (zs : List (Int × Int)) : List (Key × V) := zs.map fun z => (Sum.inl z.1, V.int z.2)
/-- d.items() -/
def rItemsK : V → List V → Hp → VK → Prop := fun x xs H Q => ∃ (a : Addr) (kvs : List (Key × V)), x = .ref a ∧ xs = [] ∧ H a = some (.dK kvs) ∧ ∀ p, H p = none → Q (.ref p) (upd H p (itemsO p a))
theorem mt_itemsK {X : Cx} : MtR X "dict.items" rItemsK := by
  intro pins s σ H x xs v us Q I rx rxs h
  obtain ⟨a, kvs, rfl, rfl, ha, q⟩ := h
  cases rx
  cases rxs
  obtain ⟨z, hd, ws, kv, o, es, ep, ho, hx, hdat, _⟩ := I.hok a _ ha
  refine DT.callItems (es := es) (ep := ep) hd ⟨o, ho, hx, hdat⟩ ?_
  exact ⟨.ref s.heap.objs.size, _, I.laid (t' := s.toks) (fun b u e => Heap.get?_push_of_some _ e) (Nat.le_refl _) (itemsO_ok (Heap.get?_push_size _ rfl)), rfl, q _ (I.hok.fresh (Nat.le_refl _))⟩
theorem ent_ix {P : Program} {w : World} : ∀ {es : List DictEntry} {vs : List (Key × Value)} {zs : List (Int × Int)}, Pairs (mixKind P w) es vs → KV (dInts zs) vs → ∀ (j : Nat) (e : DictEntry), es[j]? = some e → ∃ z t u, zs[j]? = some z ∧ e.key = .int z.1 t ∧ e.val = .int z.2 u
  | [], _, _, _, _, j, e, h => by simp at h
  | e0 :: es, _, zs, .cons h1 h2 h3, kv, j, e, h => by
    cases zs with
    | nil => cases kv
    | cons z zs =>
      cases kv with
      | cons a b =>
        cases j with
        | zero =>
          obtain rfl : e0 = e := by simpa using h
          obtain ⟨a1, u, a2⟩ := a
          have h1' : keyIs (Sum.inl z.1) e0.key = true := by rw [show (Sum.inl z.1 : Key) = _ from a1]; exact h1
          rcases keyIs_shape h1' with ⟨i, t, e1, e2⟩ | ⟨i, t, e1, e2⟩
          · cases e1
            exact ⟨z, t, u, rfl, e2, h2.trans a2⟩
          · cases e1
        | succ j => exact ent_ix h3 b j e (by simpa using h)
def rSrtIt : List V → Hp → VK → Prop := fun vs H Q => ∃ (p a : Addr) (zs : List (Int × Int)), vs = [.ref p] ∧ H p = some (itemsO p a) ∧ H a = some (.dK (dInts zs)) ∧
  ∀ (H' : Hp) (l : Addr) (ps : List (Addr × (Int × Int))), Same H H' → H l = none → (ps.map (·.2)).Perm zs → (ps.map (·.2)).Pairwise (fun y z => SrtO.lexB z y = false) → H' l = some (.lst (ps.map fun z => V.ref z.1)) → (∀ z ∈ ps, H' z.1 = some (.tup [.int z.2.1, .int z.2.2])) → Q (.ref l) H'
open Classical in
theorem cr_srtItems {X : Cx} (hc : X.calm = true) : CallR X (.builtin "sorted") rSrtIt := by
  intro pins s σ H xs us Q I r h
  obtain ⟨p, a, zs, rfl, hp, ha, q⟩ := h
  rw [Vals.ref1 r]
  have view : s.heap.IsItemsView p a := (I.hok p _ hp).1
  obtain ⟨z, hd, ws, kv, o, es, ep, ho, hx, hdat, _, prs, _⟩ := I.hok a _ ha
  have lz : (dInts zs).length = zs.length := List.length_map ..
  have l1 : zs.length = ws.length := lz.symm.trans (Paired.length kv)
  have l2 : es.size = ws.length := (Array.length_toList (xs := es)).symm.trans prs.length
  rw [lz] at z
  refine DT.sortedI (es := es) (ep := ep) (I.ok.hd hc) view ⟨o, ho, hx, hdat⟩ (by omega) fun g tk as keep more la made => ?_
  have lak : as.length = zs.length := by omega
  have nd : as.Nodup := made.rise.imp fun h => Nat.ne_of_lt h
  -- the pair at each of as
  have pr : ∀ (j : Nat) (b : Addr), as[j]? = some b → ∃ z t u, zs[j]? = some z ∧ g.get? b = some { cls := .type "tuple", data := .seq #[.int z.1 t, .int z.2 u] } := by
    intro j b hj
    obtain ⟨e, he, hg⟩ := made.pairs j b hj
    obtain ⟨z, t, u, hz, e1, e2⟩ := ent_ix prs kv j e (by rw [Array.getElem?_toList]; exact he)
    exact ⟨z, t, u, hz, by rw [hg, e1, e2]⟩
  have one : ∀ b, b ∈ as → ∃ z : Int × Int, Srt.IsPair g (.ref b) z.1 z.2 := by
    intro b hb
    obtain ⟨j, hj⟩ := List.mem_iff_getElem?.mp hb
    obtain ⟨z, t, u, _, hg⟩ := pr j b hj
    exact ⟨z, b, _, t, u, 0, rfl, hg, rfl, rfl⟩
  obtain ⟨k, hk⟩ : ∃ k : Value → Int × Int, ∀ b, b ∈ as → Srt.IsPair g (.ref b) (k (.ref b)).1 (k (.ref b)).2 := by
    refine ⟨fun v => if hv : ∃ z : Int × Int, Srt.IsPair g v z.1 z.2 then hv.choose else (0, 0), fun b hb => ?_⟩
    have hv := one b hb
    show Srt.IsPair g (.ref b) (dite _ _ _ : Int × Int).1 (dite _ _ _ : Int × Int).2
    rw [dif_pos hv]
    exact hv.choose_spec
  have kz : ∀ (j : Nat) (b : Addr), as[j]? = some b → zs[j]? = some (k (.ref b)) := by
    intro j b hj
    obtain ⟨z, t, u, hz, hg⟩ := pr j b hj
    obtain ⟨b', o', t', u', n', e1, e2, e3, e4⟩ := hk b (List.mem_of_getElem? hj)
    cases e1
    rw [hg] at e2
    cases e2
    simp only at e4
    have e5 : k (.ref b) = z := by
      injection e4 with e4 _
      have e6 := congrArg Array.toList e4
      simp at e6
      exact Prod.ext e6.1.1.symm e6.2.1.symm
    rw [e5]
    exact hz
  have mz : as.map (fun b => k (.ref b)) = zs := by
    refine List.ext_getElem? fun j => ?_
    rw [List.getElem?_map]
    cases hj : as[j]? with
    | none =>
      rw [List.getElem?_eq_none_iff] at hj
      rw [List.getElem?_eq_none_iff.mpr (by omega)]
      rfl
    | some b => rw [kz j b hj]; rfl
  -- the sort
  have top : (g.push { cls := .type "list", data := .seq (as.map Value.ref).toArray }).get? g.objs.size = some (seqObj "list" (as.map Value.ref).toArray 0) := Heap.get?_push_size _ rfl
  have up : ∀ b o, g.get? b = some o → (g.push { cls := .type "list", data := .seq (as.map Value.ref).toArray }).get? b = some o := fun b o e => Heap.get?_push_of_some _ e
  have off : ∀ b o, g.get? b = some o → b ≠ g.objs.size := fun b o e => Nat.ne_of_lt (Heap.lt_size e)
  generalize hg2 : g.push { cls := .type "list", data := .seq (as.map Value.ref).toArray } = g2 at top up ⊢
  have isr : ∀ v ∈ as.map Value.ref, ∃ b, b ∈ as ∧ v = .ref b := fun v hv => by
    obtain ⟨b, hb, rfl⟩ := List.mem_map.mp hv
    exact ⟨b, hb, rfl⟩
  refine wpAny_call_entry slot_list_sort ⟨_, top, rfl⟩ entry_list_sort
    (SrtO.list_sort_ord (s := { s with heap := g2, toks := tk }) (SrtO.swo_lex k) top (by rw [List.length_map, lak]; exact z) (fun h2 => SrtO.pairs_sortableO (s := { s with heap := g2, toks := tk }) (by omega) (fun v hv => ?_) fun o e c => ?_) fun out o1 o2 => ⟨.none, rfl, ?_⟩) (args_list_sort _)
  · obtain ⟨b, hb, rfl⟩ := isr v hv
    exact (hk b hb).keeps fun c o e _ => up c o e
  · rw [show g2.get? g.objs.size = _ from top] at e
    cases e
    exact absurd (Value.type.inj c) (by decide)
  · show EP X pins σ Q (.ref g.objs.size) { s with heap := sortedHeap g2 g.objs.size (as.map Value.ref) out.toArray, toks := tk }
    have h3 : ∀ u ∈ out, ∃ b, u = Value.ref b := fun u hu => by
      obtain ⟨b, _, e⟩ := isr u (o2.perm.mem_iff.mp hu)
      exact ⟨b, e⟩
    obtain ⟨bs, rfl⟩ : ∃ bs : List Addr, out = bs.map Value.ref := by
      clear o1 o2
      induction out with
      | nil => exact ⟨[], rfl⟩
      | cons u out ih =>
        obtain ⟨b, rfl⟩ := h3 u List.mem_cons_self
        obtain ⟨bs, rfl⟩ := ih fun v hv => h3 v (List.mem_cons_of_mem _ hv)
        exact ⟨b :: bs, rfl⟩
    have inj : ∀ x y : Addr, Value.ref x = Value.ref y → x = y := fun x y e => by cases e; rfl
    have pb : bs.Perm as := by
      have e := o2.perm.map (fun v => match v with | Value.ref b => b | _ => 0)
      rw [List.map_map, List.map_map] at e
      have id1 : ((fun v => match v with | Value.ref b => b | _ => 0) ∘ Value.ref : Addr → Addr) = id := rfl
      rw [id1, List.map_id, List.map_id] at e
      exact e
    have kF : ∀ b o, b ≠ g.objs.size → g2.get? b = some o → (sortedHeap g2 g.objs.size (as.map Value.ref) (bs.map Value.ref).toArray).get? b = some o := fun b o hb e => (sortedHeap_old hb (Heap.lt_size e)).trans e
    have kS : ∀ b o, s.heap.get? b = some o → (sortedHeap g2 g.objs.size (as.map Value.ref) (bs.map Value.ref).toArray).get? b = some o := fun b o e => kF b o (off _ _ (keep b o e)) (up b o (keep b o e))
    obtain ⟨eF, heF⟩ := sortedHeap_at (vs := as.map Value.ref) (out := (bs.map Value.ref).toArray) top
    have I1 : Inv X pins σ H { s with heap := sortedHeap g2 g.objs.size (as.map Value.ref) (bs.map Value.ref).toArray, toks := tk } := I.kept (t' := tk) kS
    have hn0 : H g.objs.size = none := I.hok.fresh (Nat.le_of_lt more)
    have bl : bs.length = zs.length := pb.length_eq.trans lak
    have I2 : Inv X pins σ (upd H g.objs.size (.lst (bs.map V.ref))) { s with heap := sortedHeap g2 g.objs.size (as.map Value.ref) (bs.map Value.ref).toArray, toks := tk } :=
      I1.take (t' := tk) (fun b ob _ e => e) (I.fpOk (Nat.le_of_lt more) hn0) ⟨by rw [List.length_map, bl]; exact z, bs.map Value.ref, eF, LiI.vals_refs bs, heF⟩
    obtain ⟨H2, I3, gr, qt⟩ := takeT (P := fun b vs => vs = [.int (k (.ref b)).1, .int (k (.ref b)).2]) I as _ I2 nd fun b hb => by
      have hbl : s.heap.objs.size ≤ b := Nat.le_of_lt (made.above b hb)
      obtain ⟨b', o', t', u', n', e1, e2, e3, e4⟩ := hk b hb
      cases e1
      refine ⟨hbl, ?_, _, rfl, fun H3 => ⟨by show 2 ≤ sizeLine; decide, [.int (k (.ref b)).1 t', .int (k (.ref b)).2 u'], .cons ⟨t', rfl⟩ (.cons ⟨u', rfl⟩ .nil), ⟨o', kF _ _ (off _ _ e2) (up _ _ e2), e3, n', e4⟩⟩⟩
      rw [upd_ne (off _ _ e2)]
      exact I.hok.fresh hbl
    refine ⟨.ref g.objs.size, H2, I3, rfl, q H2 g.objs.size (bs.map fun b => (b, k (.ref b))) (fun b o e => gr b o (by rw [upd_ne (ne_of_none e hn0)]; exact e)) hn0 ?_ ?_ ?_ ?_⟩
    · rw [List.map_map]
      have e := pb.map (fun b => k (.ref b))
      rw [mz] at e
      exact e
    · rw [List.map_map, List.pairwise_map]
      have e := o1
      unfold SrtO.Srtd at e
      rw [List.pairwise_map] at e
      exact e
    · rw [List.map_map]
      exact gr _ _ upd_same
    · intro y hy
      obtain ⟨b, hb, rfl⟩ := List.mem_map.mp hy
      obtain ⟨vs, rfl, hH⟩ := qt b (pb.mem_iff.mp hb)
      exact hH
end Tw

/-! Rounds: least periods, how many numbers have each. -/
namespace Tw
open PySem PySem.Spec PyProof.Rows L2
theorem itr_add (f : Int → Int) (a b : Nat) (x : Int) : itr f (a + b) x = itr f a (itr f b x) := by
  induction a with
  | zero => rw [Nat.zero_add]; rfl
  | succ a ih => rw [Nat.add_right_comm]; exact congrArg f ih
theorem itr_one (f : Int → Int) (n : Nat) (x : Int) : itr f n (f x) = itr f (n + 1) x := (itr_add f n 1 x).symm
theorem itr_fix {f : Int → Int} {L : Nat} {x : Int} (h : itr f L x = x) : ∀ n, itr f (L * n) x = x
  | 0 => rfl
  | n + 1 => by rw [Nat.mul_succ, itr_add, h, itr_fix h n]
def Per (f : Int → Int) (L : Nat) (x : Int) : Prop := 0 < L ∧ itr f L x = x ∧ ∀ j, j < L → 0 < j → itr f j x ≠ x
theorem per_uniq {f : Int → Int} {L M : Nat} {x : Int} (h : Per f L x) (g : Per f M x) : L = M := by
  rcases Nat.lt_trichotomy L M with c | c | c
  · exact absurd h.2.1 (g.2.2 L c h.1)
  · exact c
  · exact absurd g.2.1 (h.2.2 M c g.1)
theorem per_ex {f : Int → Int} {x : Int} : ∀ n : Nat, 0 < n → itr f n x = x → ∃ L, L ≤ n ∧ Per f L x := by
  intro n
  induction n using Nat.strongRecOn with
  | ind n ih =>
    intro h0 h
    by_cases c : ∃ j, j < n ∧ 0 < j ∧ itr f j x = x
    · obtain ⟨j, j1, j2, j3⟩ := c
      obtain ⟨L, l1, l2⟩ := ih j j1 j2 j3
      exact ⟨L, by omega, l2⟩
    · exact ⟨n, Nat.le_refl n, h0, h, fun j j1 j2 j3 => c ⟨j, j1, j2, j3⟩⟩
open Classical in
noncomputable def pcnt (f : Int → Int) (ws : List Int) (L : Nat) : Nat := ws.countP fun x => decide (Per f L x)
theorem pcnt_app (f : Int → Int) (ws vs : List Int) (L : Nat) : pcnt f (ws ++ vs) L = pcnt f ws L + pcnt f vs L := List.countP_append ..
theorem pcnt_zero {f : Int → Int} {ws : List Int} {L : Nat} (h : ∀ x ∈ ws, ¬ Per f L x) : pcnt f ws L = 0 := by
  unfold pcnt
  rw [List.countP_eq_zero]
  intro x hx
  simp [h x hx]
theorem pcnt_same {f : Int → Int} {ws vs : List Int} {L : Nat} (n1 : ws.Nodup) (n2 : vs.Nodup) (h : ∀ x, Per f L x → (x ∈ ws ↔ x ∈ vs)) : pcnt f ws L = pcnt f vs L := by
  unfold pcnt
  rw [List.countP_eq_length_filter, List.countP_eq_length_filter]
  refine List.Perm.length_eq ((List.perm_ext_iff_of_nodup (n1.filter _) (n2.filter _)).mpr fun x => ?_)
  rw [List.mem_filter, List.mem_filter]
  simp only [decide_eq_true_eq]
  exact ⟨fun z => ⟨(h x z.2).mp z.1, z.2⟩, fun z => ⟨(h x z.2).mpr z.1, z.2⟩⟩
theorem pcnt_pos {f : Int → Int} {ws : List Int} {L : Nat} : 0 < pcnt f ws L ↔ ∃ x, x ∈ ws ∧ Per f L x := by
  unfold pcnt
  rw [List.countP_pos_iff]
  simp
/-! ### a walk's new numbers -/
theorem orb_cons (f : Int → Int) (n : Nat) (x : Int) : orb f (n + 1) x = x :: orb f n (f x) := by
  unfold orb
  rw [List.range_succ_eq_map, List.map_cons, List.map_map]
  refine congrArg (x :: ·) (List.map_congr_left fun i _ => ?_)
  exact (itr_one f i x).symm
theorem orb_mem {f : Int → Int} {n : Nat} {x y : Int} : y ∈ orb f n x ↔ ∃ i, i < n ∧ itr f i x = y := by
  unfold orb
  simp [List.mem_map, List.mem_range]
theorem wk_form (f : Int → Int) : ∀ (k : Nat) (ws : List Int) (x : Int), ∃ n, n ≤ k ∧ wk f k ws x = (ws ++ orb f n x, itr f n x)
  | 0, ws, x => ⟨0, Nat.le_refl 0, by show (ws, x) = (ws ++ [], x); rw [List.append_nil]⟩
  | k + 1, ws, x => by
    by_cases h : x ∈ ws
    · refine ⟨0, Nat.zero_le _, ?_⟩
      rw [wk_in h]
      show (ws, x) = (ws ++ [], x)
      rw [List.append_nil]
    · obtain ⟨n, hn, e⟩ := wk_form f k (ws ++ [x]) (f x)
      refine ⟨n + 1, by omega, ?_⟩
      rw [wk_out h, e, orb_cons, List.append_assoc, itr_one]
      rfl
/-- closed under steps -/
def Fcl (f : Int → Int) (ws : List Int) : Prop := ∀ a ∈ ws, f a ∈ ws
theorem fcl_itr {f : Int → Int} {ws : List Int} (h : Fcl f ws) {a : Int} (ha : a ∈ ws) : ∀ n, itr f n a ∈ ws
  | 0 => ha
  | n + 1 => h _ (fcl_itr h ha n)
theorem fcl_walk {f : Int → Int} {ws : List Int} {x : Int} {n : Nat} (h : Fcl f ws) (hy : itr f n x ∈ ws ++ orb f n x) : Fcl f (ws ++ orb f n x) := by
  intro a ha
  rcases List.mem_append.mp ha with ha | ha
  · exact List.mem_append_left _ (h a ha)
  · obtain ⟨i, hi, rfl⟩ := orb_mem.mp ha
    by_cases c : i + 1 < n
    · exact List.mem_append_right _ (orb_mem.mpr ⟨i + 1, c, rfl⟩)
    · obtain rfl : n = i + 1 := by omega
      exact hy
theorem orb_inj {f : Int → Int} {ws : List Int} {n : Nat} {x : Int} (nd : (ws ++ orb f n x).Nodup) {i j : Nat} (hi : i < n) (hj : j < n) (e : itr f i x = itr f j x) : i = j := by
  have nd2 := (List.nodup_append.mp nd).2.1
  unfold orb at nd2
  have z : ((List.range n).map fun i => itr f i x)[i]? = ((List.range n).map fun i => itr f i x)[j]? := by
    rw [List.getElem?_map, List.getElem?_map, List.getElem?_range hi, List.getElem?_range hj]
    exact congrArg some e
  exact (List.getElem?_inj (by rw [List.length_map, List.length_range]; exact hi) nd2).mp z
/-- the walk ends in old numbers: none of the new ones comes again -/
theorem walk_old {f : Int → Int} {ws : List Int} {n : Nat} {x : Int} (nd : (ws ++ orb f n x).Nodup) (fc : Fcl f ws) (h : itr f n x ∈ ws) {i : Nat} (hi : i < n) (L : Nat) : ¬ Per f L (itr f i x) := by
  rintro ⟨l0, l1, _⟩
  have e := itr_fix l1 n
  have le : n ≤ L * n := Nat.le_mul_of_pos_left n l0
  rw [← itr_add, show L * n + i = (L * n - (n - i)) + n by omega, itr_add] at e
  have hm : itr f i x ∈ ws := by rw [← e]; exact fcl_itr fc h _
  exact (List.nodup_append.mp nd).2.2 _ hm _ (orb_mem.mpr ⟨i, hi, rfl⟩) rfl
section
variable {f : Int → Int} {ws : List Int} {n j : Nat} {x : Int}
theorem cyc_step (hj : j < n) (h : itr f n x = itr f j x) {i : Nat} (hi : j ≤ i) : itr f (i + (n - j)) x = itr f i x := by
  rw [show i + (n - j) = (i - j) + n by omega, itr_add, h, ← itr_add, show i - j + j = i by omega]
theorem cyc_in (hj : j < n) (h : itr f n x = itr f j x) (i : Nat) : j ≤ i → ∃ k, j ≤ k ∧ k < n ∧ itr f i x = itr f k x := by
  induction i using Nat.strongRecOn with
  | ind i ih =>
    intro hi
    by_cases c : i < n
    · exact ⟨i, hi, c, rfl⟩
    · obtain ⟨k, k1, k2, k3⟩ := ih (i - (n - j)) (by omega) (by omega)
      refine ⟨k, k1, k2, ?_⟩
      rw [← k3, ← cyc_step hj h (i := i - (n - j)) (by omega), show i - (n - j) + (n - j) = i by omega]
theorem walk_tail (nd : (ws ++ orb f n x).Nodup) (hj : j < n) (h : itr f n x = itr f j x) {i : Nat} (hi : i < j) (L : Nat) : ¬ Per f L (itr f i x) := by
  rintro ⟨l0, l1, _⟩
  have e := itr_fix l1 n
  have le : n ≤ L * n := Nat.le_mul_of_pos_left n l0
  rw [← itr_add] at e
  obtain ⟨k, k1, k2, k3⟩ := cyc_in hj h (L * n + i) (by omega)
  have := orb_inj nd k2 (by omega) (k3.symm.trans e)
  omega
theorem walk_cyc (nd : (ws ++ orb f n x).Nodup) (hj : j < n) (h : itr f n x = itr f j x) {i : Nat} (hi : j ≤ i) (hn : i < n) : Per f (n - j) (itr f i x) := by
  refine ⟨by omega, ?_, fun d d1 d0 e => ?_⟩
  · rw [← itr_add, Nat.add_comm]
    exact cyc_step hj h hi
  · rw [← itr_add] at e
    by_cases c : d + i < n
    · have := orb_inj nd c hn e
      omega
    · have e2 : itr f (d + i) x = itr f (d + i - (n - j)) x := by
        have := cyc_step hj h (i := d + i - (n - j)) (by omega)
        rw [show d + i - (n - j) + (n - j) = d + i by omega] at this
        exact this
      have := orb_inj nd (i := d + i - (n - j)) (j := i) (by omega) hn (e2.symm.trans e)
      omega
end
theorem cnt_from (j : Nat) : ∀ n, (List.range n).countP (fun i => decide (j ≤ i)) = n - j
  | 0 => by simp
  | n + 1 => by
    rw [List.range_succ, List.countP_append, cnt_from j n]
    by_cases c : j ≤ n
    · rw [List.countP_cons_of_pos (by simp [c])]
      show n - j + (0 + 1) = n + 1 - j
      omega
    · rw [List.countP_cons_of_neg (by simp [c])]
      show n - j + 0 = n + 1 - j
      omega
theorem pcnt_old {f : Int → Int} {ws : List Int} {n : Nat} {x : Int} (nd : (ws ++ orb f n x).Nodup) (fc : Fcl f ws) (h : itr f n x ∈ ws) (L : Nat) : pcnt f (ws ++ orb f n x) L = pcnt f ws L := by
  rw [pcnt_app, pcnt_zero (ws := orb f n x), Nat.add_zero]
  intro y hy
  obtain ⟨i, hi, rfl⟩ := orb_mem.mp hy
  exact walk_old nd fc h hi L
theorem pcnt_new {f : Int → Int} {ws : List Int} {n j : Nat} {x : Int} (nd : (ws ++ orb f n x).Nodup) (hj : j < n) (h : itr f n x = itr f j x) (L : Nat) : pcnt f (ws ++ orb f n x) L = pcnt f ws L + if L = n - j then n - j else 0 := by
  rw [pcnt_app]
  refine congrArg (pcnt f ws L + ·) ?_
  by_cases c : L = n - j
  · rw [if_pos c, ← cnt_from j n]
    unfold pcnt orb
    rw [List.countP_map]
    refine List.countP_congr fun i hi => ?_
    rw [List.mem_range] at hi
    simp only [Function.comp, decide_eq_true_eq]
    constructor
    · intro z
      refine Nat.le_of_not_lt fun z2 => ?_
      exact walk_tail nd hj h z2 L z
    · intro z
      rw [c]
      exact walk_cyc nd hj h z hi
  · rw [if_neg c]
    refine pcnt_zero fun y hy z => ?_
    obtain ⟨i, hi, rfl⟩ := orb_mem.mp hy
    by_cases d : j ≤ i
    · exact c (per_uniq z (walk_cyc nd hj h d hi))
    · exact walk_tail nd hj h (by omega) L z
/-! ### all numbers of a bound -/
def alls (m : Int) : List Int := (List.range m.toNat).map fun (i : Nat) => (i : Int)
theorem alls_mem {m x : Int} : x ∈ alls m ↔ 0 ≤ x ∧ x < m := by
  unfold alls
  rw [List.mem_map]
  constructor
  · rintro ⟨i, hi, rfl⟩
    rw [List.mem_range] at hi
    omega
  · rintro ⟨h0, h1⟩
    exact ⟨x.toNat, by rw [List.mem_range]; omega, by show ((x.toNat : Nat) : Int) = x; omega⟩
theorem alls_nodup (m : Int) : (alls m).Nodup := by
  unfold alls
  rw [List.nodup_iff_pairwise_ne, List.pairwise_map]
  have := List.nodup_range (n := m.toNat)
  rw [List.nodup_iff_pairwise_ne] at this
  exact this.imp fun {a b} h => by omega
/-- how many numbers have the least period L -/
noncomputable def Nper (f : Int → Int) (m : Int) (L : Nat) : Nat := pcnt f (alls m) L
noncomputable def Crnd (f : Int → Int) (m : Int) (L : Nat) : Int := ((Nper f m L / L : Nat) : Int)
structure Rds (f : Int → Int) (m : Int) (zs : List (Int × Int)) : Prop where
  up : zs.Pairwise fun y z => y.1 < z.1
  mem : ∀ L c : Int, (L, c) ∈ zs ↔ ∃ n : Nat, L = n ∧ 0 < Nper f m n ∧ c = Crnd f m n
theorem up_uniq : ∀ {l k : List (Int × Int)}, l.Pairwise (fun y z => y.1 < z.1) → k.Pairwise (fun y z => y.1 < z.1) → (∀ z, z ∈ l ↔ z ∈ k) → l = k
  | [], [], _, _, _ => rfl
  | [], b :: k, _, _, h => absurd ((h b).mpr List.mem_cons_self) (by simp)
  | a :: l, [], _, _, h => absurd ((h a).mp List.mem_cons_self) (by simp)
  | a :: l, b :: k, h1, h2, h => by
    rw [List.pairwise_cons] at h1 h2
    have e : a = b := by
      rcases List.mem_cons.mp ((h a).mp List.mem_cons_self) with e | e
      · exact e
      · rcases List.mem_cons.mp ((h b).mpr List.mem_cons_self) with e2 | e2
        · exact e2.symm
        · have := h2.1 a e
          have := h1.1 b e2
          omega
    subst e
    refine congrArg (a :: ·) (up_uniq h1.2 h2.2 fun z => ⟨fun hz => ?_, fun hz => ?_⟩)
    · rcases List.mem_cons.mp ((h z).mp (List.mem_cons_of_mem _ hz)) with e | e
      · have := h1.1 z hz
        rw [e] at this
        omega
      · exact e
    · rcases List.mem_cons.mp ((h z).mpr (List.mem_cons_of_mem _ hz)) with e | e
      · have := h2.1 z hz
        rw [e] at this
        omega
      · exact e
theorem Rds.uniq {f : Int → Int} {m : Int} {zs ys : List (Int × Int)} (h : Rds f m zs) (g : Rds f m ys) : zs = ys :=
  up_uniq h.up g.up fun z => (h.mem z.1 z.2).trans (g.mem z.1 z.2).symm
/-- what stands behind all walks -/
theorem nper_of {f : Int → Int} {m : Int} {ws : List Int} (nd : ws.Nodup) (rg : Rng m ws) (h : ∀ x, 0 ≤ x → x < m → (∃ L, Per f L x) → x ∈ ws) (L : Nat) : pcnt f ws L = Nper f m L :=
  pcnt_same nd (alls_nodup m) fun x hx => ⟨fun z => alls_mem.mpr (rg x z), fun z => by
    obtain ⟨a, b⟩ := alls_mem.mp z
    exact h x a b ⟨L, hx⟩⟩
/-! ### numbers that come again -/
theorem pigeon {m : Int} (h : Nat → Int) (hr : ∀ i, 0 ≤ h i ∧ h i < m) : ∃ i j, i < j ∧ h i = h j := by
  refine Classical.byContradiction fun c => ?_
  have nd : ((List.range (m.toNat + 1)).map h).Nodup := by
    rw [List.nodup_iff_pairwise_ne, List.pairwise_map]
    have := List.pairwise_lt_range (n := m.toNat + 1)
    exact this.imp fun {a b} l e => c ⟨a, b, l, e⟩
  have := int_len (m := m) nd fun x hx => by
    obtain ⟨i, _, rfl⟩ := List.mem_map.mp hx
    exact hr i
  rw [List.length_map, List.length_range] at this
  omega
/-- where each is a next one of one of them, each comes again -/
theorem onto_per {f : Int → Int} {m : Int} {l : List Int} (rg : Rng m l) (on : ∀ y ∈ l, ∃ z ∈ l, f z = y) {x : Int} (hx : x ∈ l) : ∃ L, Per f L x := by
  obtain ⟨g, hg⟩ : ∃ g : Int → Int, ∀ y ∈ l, g y ∈ l ∧ f (g y) = y := by
    refine ⟨fun y => if h : ∃ z, z ∈ l ∧ f z = y then h.choose else 0, fun y hy => ?_⟩
    have h : ∃ z, z ∈ l ∧ f z = y := by
      obtain ⟨z, h1, h2⟩ := on y hy
      exact ⟨z, h1, h2⟩
    show dite _ _ _ ∈ l ∧ f (dite _ _ _) = y
    rw [dif_pos h]
    exact h.choose_spec
  have gm : ∀ i, itr g i x ∈ l := fun i => by
    induction i with
    | zero => exact hx
    | succ i ih => exact (hg _ ih).1
  have fg : ∀ i, itr f i (itr g i x) = x := fun i => by
    induction i with
    | zero => rfl
    | succ i ih =>
      rw [← itr_one]
      show itr f i (f (g (itr g i x))) = x
      rw [(hg _ (gm i)).2]
      exact ih
  obtain ⟨i, j, hij, e⟩ := pigeon (m := m) (fun i => itr g i x) fun i => rg _ (gm i)
  have e2 := fg j
  rw [← show itr g i x = itr g j x from e, show j = (j - i) + i by omega, itr_add, fg i] at e2
  obtain ⟨L, _, h⟩ := per_ex (j - i) (by omega) e2
  exact ⟨L, h⟩
theorem per_prev {f : Int → Int} {L : Nat} {x : Int} (h : Per f L x) : ∃ y, f y = x ∧ (∃ n, itr f n x = y) ∧ ∃ M, Per f M y := by
  obtain ⟨h0, h1, _⟩ := h
  obtain ⟨k, rfl⟩ : ∃ k, L = k + 1 := ⟨L - 1, by omega⟩
  refine ⟨itr f k x, h1, ⟨k, rfl⟩, ?_⟩
  have e : itr f (k + 1) (itr f k x) = itr f k x := by rw [← itr_add, Nat.add_comm, itr_add, h1]
  obtain ⟨M, _, hM⟩ := per_ex (k + 1) (by omega) e
  exact ⟨M, hM⟩
end Tw

/-! All rounds: the dict of lengths, the promises. -/
namespace Tw
open PySem PySem.Spec PyProof.Rows L2
def rdD (ks : List Nat) (c : Nat → Int) : List (Int × Int) := ks.map fun (L : Nat) => ((L : Int), c L)
theorem rdD_len (ks : List Nat) (c : Nat → Int) : (dInts (rdD ks c)).length = ks.length := by
  unfold dInts rdD
  rw [List.length_map, List.length_map]
theorem rdD_congr {ks : List Nat} {c d : Nat → Int} (h : ∀ L ∈ ks, c L = d L) : rdD ks c = rdD ks d := List.map_congr_left fun L hL => by rw [h L hL]
theorem rdD_in {c : Nat → Int} {L : Nat} : ∀ {ks : List Nat}, L ∈ ks → valV (dInts (rdD ks c)) (Sum.inl (L : Int)) = some (.int (c L))
  | k :: ks, h => by
    show valV ((Sum.inl (k : Int), V.int (c k)) :: dInts (rdD ks c)) _ = _
    by_cases e : k = L
    · subst e
      rw [valV_pos rfl]
    · rw [valV_neg (fun z => e (by have := Sum.inl.inj z; omega))]
      exact rdD_in ((List.mem_cons.mp h).resolve_left fun z => e z.symm)
theorem rdD_out {c : Nat → Int} {L : Nat} : ∀ {ks : List Nat}, L ∉ ks → valV (dInts (rdD ks c)) (Sum.inl (L : Int)) = none
  | [], _ => rfl
  | k :: ks, h => by
    show valV ((Sum.inl (k : Int), V.int (c k)) :: dInts (rdD ks c)) _ = _
    rw [valV_neg (fun z => h (by have := Sum.inl.inj z; rw [show L = k by omega]; exact List.mem_cons_self))]
    exact rdD_out fun z => h (List.mem_cons_of_mem _ z)
theorem rdD_put {c : Nat → Int} {L : Nat} {v : Int} {ks : List Nat} (h : L ∈ ks) : putK (dInts (rdD ks c)) (Sum.inl (L : Int)) (.int v) = dInts (rdD ks fun M => if M = L then v else c M) := by
  unfold putK
  rw [valV_any, rdD_in h, if_pos Option.isSome_some]
  unfold dInts rdD
  rw [List.map_map, List.map_map, List.map_map]
  refine List.map_congr_left fun M _ => ?_
  show (if (Sum.inl (M : Int) : Key) = Sum.inl (L : Int) then ((Sum.inl (M : Int) : Key), V.int v) else (Sum.inl (M : Int), V.int (c M))) = (Sum.inl (M : Int), V.int (if M = L then v else c M))
  by_cases e : M = L
  · rw [if_pos (by rw [e]), if_pos e]
  · rw [if_neg (fun z => e (by have := Sum.inl.inj z; omega)), if_neg e]
theorem rdD_add {c : Nat → Int} {L : Nat} {v : Int} {ks : List Nat} (h : L ∉ ks) : putK (dInts (rdD ks c)) (Sum.inl (L : Int)) (.int v) = dInts (rdD (ks ++ [L]) fun M => if M = L then v else c M) := by
  rw [putK_new _ (rdD_out h)]
  have e : rdD (ks ++ [L]) (fun M => if M = L then v else c M) = rdD ks c ++ [((L : Int), v)] := by
    unfold rdD
    rw [List.map_append]
    refine congr (congrArg _ (List.map_congr_left fun M hM => ?_)) ?_
    · have ne : M ≠ L := fun z => h (by rw [← z]; exact hM)
      show ((M : Int), if M = L then v else c M) = ((M : Int), c M)
      rw [if_neg ne]
    · show [((L : Int), if L = L then v else c L)] = _
      rw [if_pos rfl]
  rw [e]
  unfold dInts
  rw [List.map_append]
  rfl
/-- the pairs told -/
def TupP (H : Hp) (q : Addr) (ps : List (Addr × (Int × Int))) : Prop := H q = some (.tup (ps.map fun z => V.ref z.1)) ∧ ∀ z ∈ ps, H z.1 = some (.tup [.int z.2.1, .int z.2.2])
theorem TupP.same {H H' : Hp} {q : Addr} {ps : List (Addr × (Int × Int))} (h : TupP H q ps) (s : Same H H') : TupP H' q ps := ⟨s _ _ h.1, fun z hz => s _ _ (h.2 z hz)⟩
def pAllR (K : PySem.W.Frag) : V → Hp → VK → XK → Prop := fun a H Q _ => ∃ (r : Addr) (t p m : Int), a = .ref r ∧ SqT K H r [.int t, .int p, .int m] ∧ Rule t p m ∧ m ≤ 2000 ∧
  ∀ H' q ps, Same H H' → H q = none → TupP H' q ps → Rds (stp t p m) m (ps.map (·.2)) → Q (.ref q) H'
def dPairs (zs : List (Int × Int)) : PyData := .tuple (zs.map fun z => .tuple [.int z.1, .int z.2])
theorem lay_pairs : ∀ zs : List (Int × Int), PyData.canLayAll0 (zs.map fun z => .tuple [.int z.1, .int z.2]) = true ∧ PyData.depthAll (zs.map fun z => .tuple [.int z.1, .int z.2]) ≤ 1
  | [] => ⟨rfl, by decide⟩
  | z :: zs => by
    obtain ⟨h1, h2⟩ := lay_pairs zs
    constructor
    · show (PyData.canLay0 (.tuple [.int z.1, .int z.2]) && PyData.canLayAll0 (zs.map fun z => .tuple [.int z.1, .int z.2])) = true
      rw [h1]
      rfl
    · show max (PyData.depth (.tuple [.int z.1, .int z.2])) (PyData.depthAll (zs.map fun z => .tuple [.int z.1, .int z.2])) ≤ 1
      have : PyData.depth (.tuple [.int z.1, .int z.2]) = 1 := rfl
      omega
theorem shp_pairs (zs : List (Int × Int)) : SeqAt.shaped (dPairs zs) = true := by
  obtain ⟨h1, h2⟩ := lay_pairs zs
  show (PyData.canLayAll0 (zs.map fun z => .tuple [.int z.1, .int z.2]) && decide (PyData.depthAll (zs.map fun z => .tuple [.int z.1, .int z.2]) + 1 ≤ 64)) = true
  rw [h1, decide_eq_true (by omega)]
  rfl
theorem dp_pairs {K : PySem.W.Frag} {H : Hp} : ∀ ps : List (Addr × (Int × Int)), (∀ z ∈ ps, H z.1 = some (.tup [.int z.2.1, .int z.2.2])) → DpAll K H (ps.map fun z => V.ref z.1) ((ps.map (·.2)).map fun z => PyData.tuple [.int z.1, .int z.2])
  | [], _ => .nil
  | z :: ps, h => .cons (.tup (SqT.of (h z List.mem_cons_self)) (.cons (.int _) (.cons (.int _) .nil))) (dp_pairs ps fun y hy => h y (List.mem_cons_of_mem _ hy))
theorem TupP.dp {K : PySem.W.Frag} {H : Hp} {q : Addr} {ps : List (Addr × (Int × Int))} (h : TupP H q ps) : Dp K H (.ref q) (dPairs (ps.map (·.2))) := .tup (SqT.of h.1) (dp_pairs ps h.2)
/-! ### the program's counting, walk by walk -/
noncomputable def Cws (f : Int → Int) (ws : List Int) (L : Nat) : Int := ((pcnt f ws L / L : Nat) : Int)
structure Cnt (f : Int → Int) (ws : List Int) (ks : List Nat) : Prop where
  nd : ks.Nodup
  mem : ∀ L, L ∈ ks ↔ 0 < pcnt f ws L
theorem per_pos {f : Int → Int} {ws : List Int} {L : Nat} (h : 0 < pcnt f ws L) : 0 < L := by
  obtain ⟨x, _, hx⟩ := pcnt_pos.mp h
  exact hx.1
theorem cws_old {f : Int → Int} {ws vs : List Int} (h : ∀ L, pcnt f vs L = pcnt f ws L) : Cws f vs = Cws f ws := by
  funext L
  unfold Cws
  rw [h L]
theorem Cnt.old {f : Int → Int} {ws vs : List Int} {ks : List Nat} (c : Cnt f ws ks) (h : ∀ L, pcnt f vs L = pcnt f ws L) : Cnt f vs ks := ⟨c.nd, fun L => by rw [h L]; exact c.mem L⟩
theorem cws_new {f : Int → Int} {ws vs : List Int} {c : Nat} (c0 : 0 < c) (h : ∀ L, pcnt f vs L = pcnt f ws L + if L = c then c else 0) : Cws f vs = fun L => if L = c then Cws f ws c + 1 else Cws f ws L := by
  funext L
  show Cws f vs L = if L = c then Cws f ws c + 1 else Cws f ws L
  unfold Cws
  rw [h L]
  by_cases e : L = c
  · subst e
    rw [if_pos rfl, if_pos rfl, Nat.add_div_right _ c0]
    rfl
  · rw [if_neg e, if_neg e, Nat.add_zero]
theorem Cnt.again {f : Int → Int} {ws vs : List Int} {ks : List Nat} {c : Nat} (C : Cnt f ws ks) (hc : c ∈ ks) (h : ∀ L, pcnt f vs L = pcnt f ws L + if L = c then c else 0) : Cnt f vs ks := by
  refine ⟨C.nd, fun L => ?_⟩
  rw [h L]
  by_cases e : L = c
  · subst e
    have := (C.mem L).mp hc
    exact ⟨fun _ => by omega, fun _ => hc⟩
  · rw [if_neg e, Nat.add_zero]
    exact C.mem L
theorem Cnt.more {f : Int → Int} {ws vs : List Int} {ks : List Nat} {c : Nat} (C : Cnt f ws ks) (c0 : 0 < c) (hc : c ∉ ks) (h : ∀ L, pcnt f vs L = pcnt f ws L + if L = c then c else 0) : Cnt f vs (ks ++ [c]) := by
  refine ⟨?_, fun L => ?_⟩
  · rw [List.nodup_append]
    refine ⟨C.nd, by simp, fun a ha b hb e => ?_⟩
    rw [List.mem_singleton] at hb
    exact hc (by rw [← hb, ← e]; exact ha)
  · rw [h L, List.mem_append, List.mem_singleton]
    by_cases e : L = c
    · subst e
      rw [if_pos rfl]
      exact ⟨fun _ => by omega, fun _ => .inr rfl⟩
    · rw [if_neg e, Nat.add_zero, ← C.mem L]
      exact ⟨fun z => z.resolve_right e, .inl⟩
theorem cws_none {f : Int → Int} {ws : List Int} {ks : List Nat} {c : Nat} (C : Cnt f ws ks) (hc : c ∉ ks) : Cws f ws c = 0 := by
  have : pcnt f ws c = 0 := by
    have := mt (C.mem c).mpr hc
    omega
  unfold Cws
  rw [this, Nat.zero_div]
  rfl
/-- the sorted items are the rounds -/
theorem Cnt.rds {f : Int → Int} {m : Int} {ws : List Int} {ks : List Nat} {zs : List (Int × Int)} (C : Cnt f ws ks) (all : ∀ L, pcnt f ws L = Nper f m L) (pm : zs.Perm (rdD ks (Cws f ws))) (up : zs.Pairwise fun y z => SrtO.lexB z y = false) : Rds f m zs := by
  have nd : (zs.map (·.1)).Nodup := by
    have e := pm.map (·.1)
    refine e.nodup_iff.mpr ?_
    unfold rdD
    rw [List.map_map, List.nodup_iff_pairwise_ne, List.pairwise_map]
    have n := C.nd
    rw [List.nodup_iff_pairwise_ne] at n
    exact n.imp fun {a b} h z => h (by have : (a : Int) = (b : Int) := z; omega)
  refine ⟨?_, fun L c => ?_⟩
  · rw [List.nodup_iff_pairwise_ne, List.pairwise_map] at nd
    exact (up.and nd).imp fun {a b} z => by
      have z1 := SrtO.lexB_no.mp z.1
      have z2 := z.2
      omega
  · rw [pm.mem_iff]
    unfold rdD
    rw [List.mem_map]
    constructor
    · rintro ⟨M, hM, e⟩
      obtain ⟨rfl, rfl⟩ := Prod.mk.inj e
      refine ⟨M, rfl, by rw [← all M]; exact (C.mem M).mp hM, ?_⟩
      unfold Cws Crnd
      rw [all M]
    · rintro ⟨M, rfl, h, rfl⟩
      refine ⟨M, (C.mem M).mpr (by rw [all M]; exact h), ?_⟩
      unfold Cws Crnd
      rw [all M]
end Tw
namespace Tw
open PySem PySem.Spec PyProof.Rows L2
theorem orb_get (f : Int → Int) {n i : Nat} (x : Int) (h : i < n) : (orb f n x)[i]? = some (itr f i x) := by
  unfold orb
  rw [List.getElem?_map, List.getElem?_range h]
  rfl
theorem orb_idx {f : Int → Int} {n : Nat} {x y : Int} (h : y ∈ orb f n x) : (orb f n x).idxOf y < n ∧ itr f ((orb f n x).idxOf y) x = y := by
  have hl := List.idxOf_lt_length_of_mem h
  have e := List.getElem_idxOf hl
  rw [orb_len] at hl
  refine ⟨hl, ?_⟩
  have e2 := orb_get f x hl
  rw [List.getElem?_eq_getElem (by rw [orb_len]; exact hl), e] at e2
  exact (Option.some.inj e2).symm
theorem cnt_nil (f : Int → Int) : Cnt f [] [] := ⟨List.nodup_nil, fun L => by
  constructor
  · intro h; cases h
  · intro h
    obtain ⟨x, hx, _⟩ := pcnt_pos.mp h
    cases hx⟩
end Tw

/-! Rounds by taking away what is no next one; the law's counting. -/
namespace Tw
open PySem PySem.Spec PyProof.Rows L2
theorem sub_len : ∀ {l k : List Int}, l.Nodup → (∀ x ∈ l, x ∈ k) → l.length ≤ k.length
  | [], k, _, _ => Nat.zero_le _
  | a :: l, k, nd, h => by
    rw [List.nodup_cons] at nd
    have ha := h a List.mem_cons_self
    have ih := sub_len (k := k.erase a) nd.2 fun x hx => (List.mem_erase_of_ne (fun e => nd.1 (by rw [← e]; exact hx))).mpr (h x (List.mem_cons_of_mem _ hx))
    rw [List.length_erase_of_mem ha] at ih
    have := List.length_pos_of_mem ha
    show l.length + 1 ≤ k.length
    omega
theorem sub_eq {l k : List Int} (nl : l.Nodup) (h : ∀ x ∈ l, x ∈ k) (e : l.length = k.length) {x : Int} (hx : x ∈ k) : x ∈ l := by
  refine Classical.byContradiction fun c => ?_
  have := sub_len (l := x :: l) (k := k) (List.nodup_cons.mpr ⟨c, nl⟩) fun y hy => by
    rcases List.mem_cons.mp hy with e | e
    · rw [e]; exact hx
    · exact h y e
  have e2 : (x :: l).length = l.length + 1 := rfl
  omega
theorem up_nodup {l : List Int} (h : l.Pairwise (· < ·)) : l.Nodup := by
  rw [List.nodup_iff_pairwise_ne]
  exact h.imp fun {a b} z => by omega
structure LI (f : Int → Int) (m : Int) (left : List Int) (mn : Int) : Prop where
  up : left.Pairwise (· < ·)
  rg : Rng m left
  per : ∀ x, 0 ≤ x → x < m → (∃ L, Per f L x) → x ∈ left
  cl : Fcl f left
  on : mn = left.length → ∀ y ∈ left, ∃ z ∈ left, f z = y
theorem LI.step {f : Int → Int} {m : Int} {left out : List Int} {mn : Int} (fr : ∀ x, 0 ≤ f x ∧ f x < m) (h : LI f m left mn) (up : out.Pairwise (· < ·)) (mem : ∀ k, k ∈ out ↔ k ∈ left.map f) : LI f m out left.length ∧ out.length ≤ left.length := by
  have sub : ∀ x ∈ out, x ∈ left := fun x hx => by
    obtain ⟨y, hy, rfl⟩ := List.mem_map.mp ((mem x).mp hx)
    exact h.cl y hy
  refine ⟨⟨up, fun x hx => h.rg x (sub x hx), fun x x0 x1 hp => ?_, fun x hx => ?_, fun e y hy => ?_⟩, sub_len (up_nodup up) sub⟩
  · obtain ⟨L, hL⟩ := hp
    obtain ⟨y, e1, ⟨n, e2⟩, hM⟩ := per_prev hL
    refine (mem x).mpr (List.mem_map.mpr ⟨y, ?_, e1⟩)
    have yr : 0 ≤ y ∧ y < m := by
      rw [← e2]
      cases n with
      | zero => exact ⟨x0, x1⟩
      | succ n => exact fr _
    exact h.per y yr.1 yr.2 hM
  · exact (mem _).mpr (List.mem_map.mpr ⟨x, sub x hx, rfl⟩)
  · obtain ⟨z, hz, e2⟩ := List.mem_map.mp ((mem y).mp hy)
    exact ⟨z, sub_eq (up_nodup up) sub (by omega) hz, e2⟩
theorem LI.first {f : Int → Int} {m : Int} (fr : ∀ x, 0 ≤ f x ∧ f x < m) : LI f m (alls m) (-1) := by
  refine ⟨?_, fun x hx => alls_mem.mp hx, fun x x0 x1 _ => alls_mem.mpr ⟨x0, x1⟩, fun x _ => alls_mem.mpr (fr x), fun e => by omega⟩
  unfold alls
  rw [List.pairwise_map]
  exact (List.pairwise_lt_range (n := m.toNat)).imp fun {a b} h => by omega
theorem rg_alls (m : Int) : rgV 0 m = (alls m).map V.int := by
  unfold rgV alls
  rw [List.map_map, show (m - 0).toNat = m.toNat by omega]
  refine List.map_congr_left fun i _ => ?_
  show V.int (0 + (i : Int)) = V.int (i : Int)
  rw [Int.zero_add]
theorem alls_len (m : Int) : (alls m).length = m.toNat := by
  unfold alls
  rw [List.length_map, List.length_range]
/-! ### going round in what is left -/
structure LenI (f : Int → Int) (ws ls : List Int) : Prop where
  pos : ∀ x ∈ ls, 0 < x
  cnt : ∀ L : Nat, ls.count (L : Int) * L = pcnt f ws L
theorem LenI.nil (f : Int → Int) : LenI f [] [] := ⟨fun x hx => absurd hx (by simp), fun L => Nat.zero_mul L⟩
theorem LenI.new {f : Int → Int} {ws vs ls : List Int} {c : Nat} (h : LenI f ws ls) (c0 : 0 < c) (e : ∀ L, pcnt f vs L = pcnt f ws L + if L = c then c else 0) : LenI f vs (ls ++ [(c : Int)]) := by
  refine ⟨fun x hx => ?_, fun L => ?_⟩
  · rcases List.mem_append.mp hx with hx | hx
    · exact h.pos x hx
    · rw [List.mem_singleton.mp hx]
      omega
  · rw [e L, ← h.cnt L, List.count_append, Nat.add_mul]
    refine congrArg (ls.count (L : Int) * L + ·) ?_
    by_cases z : L = c
    · subst z
      rw [if_pos rfl, List.count_singleton_self, Nat.one_mul]
    · rw [if_neg z, List.count_eq_zero_of_not_mem (fun y => z (by have := List.mem_singleton.mp y; omega)), Nat.zero_mul]
theorem walk_whole {f : Int → Int} {ws : List Int} {n : Nat} {x : Int} (nd : (ws ++ orb f n x).Nodup) (fc : Fcl f ws) (hp : ∃ L, Per f L x) (n0 : 0 < n) (hy : itr f n x ∈ ws ++ orb f n x) (L : Nat) : pcnt f (ws ++ orb f n x) L = pcnt f ws L + if L = n then n else 0 := by
  obtain ⟨M, hM⟩ := hp
  rcases List.mem_append.mp hy with h | h
  · exact absurd hM (walk_old nd fc h n0 M)
  · obtain ⟨i, hi, e⟩ := orb_mem.mp h
    cases i with
    | zero => exact pcnt_new nd n0 e.symm L
    | succ i => exact absurd hM (walk_tail nd hi e.symm (Nat.succ_pos i) M)
theorem LenI.rds {f : Int → Int} {m : Int} {ws ls out : List Int} (h : LenI f ws ls) (all : ∀ L, pcnt f ws L = Nper f m L) (up : out.Pairwise (· < ·)) (mem : ∀ k, k ∈ out ↔ k ∈ ls) : Rds f m (out.map fun k => (k, ((ls.count k : Nat) : Int))) := by
  refine ⟨?_, fun L c => ?_⟩
  · rw [List.pairwise_map]
    exact up
  · rw [List.mem_map]
    have key : ∀ n : Nat, 0 < n → ((ls.count (n : Int) : Nat) : Int) = Crnd f m n := fun n n0 => by
      unfold Crnd
      rw [← all n, ← h.cnt n, Nat.mul_div_cancel _ n0]
    constructor
    · rintro ⟨k, hk, e⟩
      obtain ⟨rfl, rfl⟩ := Prod.mk.inj e
      have hl := (mem k).mp hk
      have k0 := h.pos k hl
      obtain ⟨n, rfl⟩ := Int.eq_ofNat_of_zero_le (show 0 ≤ k by omega)
      have n0 : 0 < n := by omega
      refine ⟨n, rfl, ?_, key n n0⟩
      rw [← all n, ← h.cnt n]
      exact Nat.mul_pos (List.count_pos_iff.mpr hl) n0
    · rintro ⟨n, rfl, hn, rfl⟩
      have hn2 := hn
      rw [← all n, ← h.cnt n] at hn
      have n0 : 0 < n := Nat.pos_of_mul_pos_left hn
      have c0 : 0 < ls.count (n : Int) := Nat.pos_of_mul_pos_right hn
      exact ⟨n, (mem _).mpr (List.count_pos_iff.mp c0), by rw [key n n0]⟩
/-! ### some rules of small bounds -/
theorem nper_g {f : Int → Int} {m : Int} (g : Int → Nat) (h : ∀ x ∈ alls m, Per f (g x) x) (L : Nat) : Nper f m L = (alls m).countP fun x => decide (g x = L) := by
  unfold Nper pcnt
  refine List.countP_congr fun x hx => ?_
  simp only [decide_eq_true_eq]
  exact ⟨fun z => per_uniq (h x hx) z, fun z => by rw [← z]; exact h x hx⟩
theorem rds_001 : Rds (stp 0 0 1) 1 [(1, 1)] := by
  have e : ∀ L, Nper (stp 0 0 1) 1 L = if L = 1 then 1 else 0 := fun L => by
    rw [nper_g (fun _ => 1) (by unfold Per; decide) L, show alls 1 = [0] by decide]
    by_cases c : L = 1
    · subst c; rfl
    · rw [if_neg c, List.countP_eq_zero]
      intro x _
      simp only [decide_eq_true_eq]
      exact fun z => c z.symm
  refine ⟨by simp, fun L c => ?_⟩
  constructor
  · intro h
    obtain ⟨rfl, rfl⟩ := Prod.mk.inj (List.mem_singleton.mp h)
    refine ⟨1, rfl, by rw [e]; decide, ?_⟩
    unfold Crnd
    rw [e]
    rfl
  · rintro ⟨n, rfl, h, rfl⟩
    rw [e] at h
    by_cases c : n = 1
    · subst c
      unfold Crnd
      rw [e]
      exact List.mem_singleton.mpr rfl
    · rw [if_neg c] at h
      omega
theorem rds_106 : Rds (stp 1 0 6) 6 [(1, 6)] := by
  have e : ∀ L, Nper (stp 1 0 6) 6 L = if L = 1 then 6 else 0 := fun L => by
    rw [nper_g (fun _ => 1) (by unfold Per; decide) L]
    by_cases c : L = 1
    · subst c; rfl
    · rw [if_neg c, List.countP_eq_zero]
      intro x _
      simp only [decide_eq_true_eq]
      exact fun z => c z.symm
  refine ⟨by simp, fun L c => ?_⟩
  constructor
  · intro h
    obtain ⟨rfl, rfl⟩ := Prod.mk.inj (List.mem_singleton.mp h)
    refine ⟨1, rfl, by rw [e]; decide, ?_⟩
    unfold Crnd
    rw [e]
    rfl
  · rintro ⟨n, rfl, h, rfl⟩
    rw [e] at h
    by_cases c : n = 1
    · subst c
      unfold Crnd
      rw [e]
      exact List.mem_singleton.mpr rfl
    · rw [if_neg c] at h
      omega
theorem rds_205 : Rds (stp 2 0 5) 5 [(1, 1), (4, 1)] := by
  have e : ∀ L, Nper (stp 2 0 5) 5 L = (if L = 1 then 1 else 0) + if L = 4 then 4 else 0 := fun L => by
    rw [nper_g (fun x => if x = 0 then 1 else 4) (by unfold Per; decide) L, show alls 5 = [0, 1, 2, 3, 4] by decide]
    by_cases c : L = 1
    · subst c; rfl
    · by_cases d : L = 4
      · subst d; rfl
      · rw [if_neg c, if_neg d, List.countP_eq_zero.mpr]
        intro x _
        simp only [decide_eq_true_eq]
        intro z
        by_cases x0 : x = 0
        · rw [if_pos x0] at z; exact c z.symm
        · rw [if_neg x0] at z; exact d z.symm
  refine ⟨by simp, fun L c => ?_⟩
  constructor
  · intro h
    rcases List.mem_cons.mp h with h | h
    · obtain ⟨rfl, rfl⟩ := Prod.mk.inj h
      refine ⟨1, rfl, by rw [e]; decide, ?_⟩
      unfold Crnd
      rw [e]
      rfl
    · obtain ⟨rfl, rfl⟩ := Prod.mk.inj (List.mem_singleton.mp h)
      refine ⟨4, rfl, by rw [e]; decide, ?_⟩
      unfold Crnd
      rw [e]
      rfl
  · rintro ⟨n, rfl, h, rfl⟩
    rw [e] at h
    by_cases c : n = 1
    · subst c
      unfold Crnd
      rw [e]
      exact List.mem_cons_self
    · by_cases d : n = 4
      · subst d
        unfold Crnd
        rw [e]
        exact List.mem_cons_of_mem _ (List.mem_singleton.mpr rfl)
      · rw [if_neg c, if_neg d] at h
        omega
end Tw
namespace Tw
open PySem PySem.Spec PyProof.Rows L2
/-- a method within a comprehension: the fragment is named -/
theorem bm_in {X : Cx} {K : PySem.W.Frag} {a b : Expr} {bs : List Expr} {ta : TE} {tb : TA} {nm : Str} {p1 p2 : Pos} {T i : String} {r : V → List V → Hp → VK → Prop} (hK : X.K = K) (h1 : PlainAttrs T) (h2 : Slot T nm i) (h3 : typeOf (.builtin i) = pure (.type "method_descriptor")) (h4 : MtR X i r) (h5 : PE X a ta) (h6 : PA X (b :: bs) tb)
    (k1 : attributeBase a nm X.env (eval a X.env) = eval a X.env := by rfl)
    (k2 : ((backTo p2 (starEach (b :: bs) X.env)).all (fun x => !x.1) && (backToKw p2 (keywordEach [] X.env)).all (fun x => x.1.isSome) && decide ((b :: bs).length + ([] : List Keyword).length + (if ([] : List Keyword).isEmpty then 0 else 1) < 30)) = true := by rfl)
    (k3 : (p1.endLine == p2.line) = true := by rfl) (k4 : starEach (b :: bs) X.env = (false, eval b X.env) :: starEach bs X.env := by rfl) (k5 : (backTo p2 (starEach bs X.env)).any (·.1) = false := by rfl) : PE X (.Call (.Attribute a nm p1) (b :: bs) [] p2) (tBM K T r ta tb) := by
  subst hK
  exact pe_bm h1 h2 h3 h4 h5 h6 k1 k2 k3 k4 k5
end Tw
namespace Tw
open PySem PySem.Spec PyProof.Rows L2
theorem yesT {σ : L2.St} {H : Hp} {A B : Hp → Prop} (h : A H) : tYes σ H fun b H3 => if b = true then A H3 else B H3 := by
  show if true = true then A H else B H
  rw [if_pos rfl]
  exact h
end Tw

/-! Powers, sums of powers, common divisors, inverses. -/
namespace Tw
open PySem PySem.Spec PyProof.Rows L2
def geo (t : Int) : Nat → Int
  | 0 => 0
  | n + 1 => geo t n + t ^ n
theorem geo_add (t : Int) (a : Nat) : ∀ b, geo t (a + b) = geo t a + t ^ a * geo t b
  | 0 => by show geo t a = geo t a + t ^ a * 0; grind
  | b + 1 => by
    show geo t (a + b) + t ^ (a + b) = geo t a + t ^ a * (geo t b + t ^ b)
    rw [geo_add t a b, Int.pow_add]
    grind
theorem geo_mul (t : Int) : ∀ n, (t - 1) * geo t n = t ^ n - 1
  | 0 => by rw [Int.pow_zero]; show (t - 1) * 0 = 1 - 1; grind
  | n + 1 => by
    have ih := geo_mul t n
    show (t - 1) * (geo t n + t ^ n) = t ^ (n + 1) - 1
    rw [Int.pow_succ]
    grind
/-- what a rule of n steps is -/
def rsT (t m : Int) (n : Nat) : Int := t ^ n % m
def rsP (t p m : Int) (n : Nat) : Int := p * geo t n % m
theorem rs_T (t m : Int) (a c : Nat) : rsT t m c * rsT t m a % m = rsT t m (a + c) := by
  unfold rsT
  rw [← Int.mul_emod, Int.pow_add, Int.mul_comm]
theorem rs_P (t p m : Int) (a c : Nat) : (rsT t m c * rsP t p m a + rsP t p m c) % m = rsP t p m (a + c) := by
  unfold rsT rsP
  rw [Int.add_emod, Int.emod_emod, ← Int.mul_emod, ← Int.add_emod, Nat.add_comm a c, geo_add]
  congr 1
  grind
theorem rs_rng {t p m : Int} (h : 0 < m) (n : Nat) : (0 ≤ rsT t m n ∧ rsT t m n < m) ∧ 0 ≤ rsP t p m n ∧ rsP t p m n < m := ⟨mod_bd _ h, mod_bd _ h⟩
theorem Rule.rs {t p m : Int} (R : Rule t p m) (n : Nat) : Rule (rsT t m n) (rsP t p m n) m :=
  have h := rs_rng (t := t) (p := p) (show 0 < m by have := R.b1; omega) n
  ⟨R.b1, R.b2, h.1.1, h.1.2, h.2.1, h.2.2⟩
/-- ahead -/
def ahd (t p m : Int) (n : Nat) (x : Int) : Int := (t ^ n * x + p * geo t n) % m
theorem stp_rs (t p m : Int) (n : Nat) (x : Int) : stp (rsT t m n) (rsP t p m n) m x = ahd t p m n x := by
  unfold stp rsT rsP ahd
  rw [Int.add_emod_emod, Int.add_emod, Int.mul_emod, Int.emod_emod, ← Int.mul_emod, ← Int.add_emod]
theorem ahd_rng {t p m : Int} (h : 0 < m) (n : Nat) (x : Int) : 0 ≤ ahd t p m n x ∧ ahd t p m n x < m := mod_bd _ h
/-- the number from which n steps lead to s -/
def Back (t p m : Int) (n : Nat) (s y : Int) : Prop := 0 ≤ y ∧ y < m ∧ ahd t p m n y = s
theorem cop_pow {t m : Int} (h : Int.gcd t m = 1) (n : Nat) : Nat.Coprime m.natAbs (t ^ n).natAbs := by
  rw [Int.natAbs_pow]
  exact (Nat.Coprime.pow_left n (show Nat.Coprime t.natAbs m.natAbs from h)).symm
theorem Back.uniq {t p m : Int} {n : Nat} {s y z : Int} (hc : Int.gcd t m = 1) (h : Back t p m n s y) (k : Back t p m n s z) : y = z := by
  obtain ⟨y0, y1, ye⟩ := h
  obtain ⟨z0, z1, ze⟩ := k
  have e : (t ^ n * y + p * geo t n) % m = (t ^ n * z + p * geo t n) % m := ye.trans ze.symm
  have e2 := Int.emod_eq_emod_iff_emod_sub_eq_zero.mp e
  have e3 : m ∣ t ^ n * (y - z) := by
    have := Int.dvd_of_emod_eq_zero e2
    rw [show t ^ n * (y - z) = t ^ n * y + p * geo t n - (t ^ n * z + p * geo t n) by grind]
    exact this
  have e4 : m.natAbs ∣ (y - z).natAbs := by
    have h1 := Int.natAbs_dvd_natAbs.mpr e3
    rw [Int.natAbs_mul] at h1
    exact Nat.Coprime.dvd_of_dvd_mul_left (cop_pow hc n) h1
  have e5 : (y - z).natAbs = 0 := Nat.eq_zero_of_dvd_of_lt e4 (by omega)
  omega
/-- undone by the inverse -/
theorem back_of {t p m u : Int} (m0 : 0 < m) (hu : t * u % m = 1 % m) (s : Int) (s0 : 0 ≤ s) (s1 : s < m) : ∀ n : Nat, Back t p m n s (ahd u (-u * p % m) m n s) := by
  intro n
  refine ⟨(ahd_rng m0 n s).1, (ahd_rng m0 n s).2, ?_⟩
  obtain ⟨e, he⟩ := Int.dvd_of_emod_eq_zero (Int.emod_eq_emod_iff_emod_sub_eq_zero.mp hu)
  have htu : t * u = m * e + 1 := by omega
  have key : ∀ k : Nat, m ∣ t ^ k * (u ^ k * s + (-u * p) * geo u k) + p * geo t k - s := by
    intro k
    induction k with
    | zero =>
      rw [Int.pow_zero, Int.pow_zero]
      show m ∣ 1 * (1 * s + (-u * p) * 0) + p * 0 - s
      exact ⟨0, by grind⟩
    | succ k ih =>
      obtain ⟨c, hc⟩ := ih
      have g1 : geo u (k + 1) = 1 + u * geo u k := by
        rw [Nat.add_comm, geo_add]
        show 0 + u ^ 0 + u ^ 1 * geo u k = _
        rw [Int.pow_zero, Int.pow_one]
        grind
      have g2 : geo t (k + 1) = geo t k + t ^ k := rfl
      rw [g1, g2, Int.pow_succ, Int.pow_succ]
      generalize u ^ k = U at *
      generalize t ^ k = T at *
      generalize geo u k = G at *
      generalize geo t k = J at *
      refine ⟨c + T * e * (U * s + (-u * p) * G - p), ?_⟩
      have e1 : T * t * (U * u * s + -u * p * (1 + u * G)) + p * (J + T) - s = T * ((t * u) * (U * s + -u * p * G - p) + p) + p * J - s := by grind
      rw [e1, htu]
      have e2 : T * ((m * e + 1) * (U * s + -u * p * G - p) + p) + p * J - s = (T * (U * s + -u * p * G) + p * J - s) + m * (T * e * (U * s + -u * p * G - p)) := by grind
      rw [e2, hc]
      grind
  obtain ⟨c, hc⟩ := key n
  have hy : ∃ b, ahd u (-u * p % m) m n s = (u ^ n * s + (-u * p) * geo u n) + m * b := by
    unfold ahd
    have a1 := Int.mul_ediv_add_emod (u ^ n * s + (-u * p % m) * geo u n) m
    have a2 := Int.mul_ediv_add_emod (-u * p) m
    refine ⟨-((u ^ n * s + (-u * p % m) * geo u n) / m) - (-u * p / m) * geo u n, ?_⟩
    generalize (u ^ n * s + (-u * p % m) * geo u n) / m = d1 at *
    generalize (u ^ n * s + (-u * p % m) * geo u n) % m = d2 at *
    generalize -u * p / m = d3 at *
    generalize -u * p % m = d4 at *
    grind
  obtain ⟨b, hb⟩ := hy
  rw [hb]
  show (t ^ n * (u ^ n * s + -u * p * geo u n + m * b) + p * geo t n) % m = s
  have e3 : t ^ n * (u ^ n * s + -u * p * geo u n + m * b) + p * geo t n = s + m * (c + t ^ n * b) := by grind
  rw [e3, Int.add_mul_emod_self_left]
  exact Int.emod_eq_of_lt s0 s1
/-! ### common divisors -/
theorem gcd_step {x y : Int} (h0 : 0 ≤ x) (h1 : 0 < y) : Int.gcd y (x % y) = Int.gcd x y := by
  obtain ⟨a, rfl⟩ := Int.eq_ofNat_of_zero_le h0
  obtain ⟨b, rfl⟩ := Int.eq_ofNat_of_zero_le (Int.le_of_lt h1)
  show Nat.gcd b ((a : Int) % (b : Int)).natAbs = Nat.gcd a b
  rw [← Int.natCast_emod, Int.natAbs_natCast, Nat.gcd_comm b, ← Nat.gcd_rec, Nat.gcd_comm]
/-! ### powers by squaring -/
theorem sq_pow (t : Int) (n : Nat) : t ^ n = (if n % 2 = 1 then t else 1) * (t * t) ^ (n / 2) := by
  have e : n = 2 * (n / 2) + n % 2 := by omega
  have h2 : (t * t) ^ (n / 2) = t ^ (2 * (n / 2)) := by rw [Int.pow_mul, show t ^ 2 = t * t by rw [Int.pow_succ, Int.pow_one]]
  rw [h2]
  by_cases h : n % 2 = 1
  · rw [if_pos h]
    conv => lhs; rw [e, h, Int.pow_succ]
    exact Int.mul_comm _ _
  · rw [if_neg h, Int.one_mul]
    conv => lhs; rw [e, show n % 2 = 0 by omega, Nat.add_zero]
/-- the law's sum of powers, by a power of the bound times one less -/
theorem shares {t m P : Int} {n : Nat} (m0 : 0 < m) (t2 : 2 ≤ t) (hP : P = t ^ n % (m * (t - 1))) : P % m = t ^ n % m ∧ (P - 1) / (t - 1) % m = geo t n % m := by
  have d1 := Int.mul_ediv_add_emod (t ^ n) (m * (t - 1))
  rw [← hP] at d1
  have g := geo_mul t n
  constructor
  · rw [hP, Int.emod_emod_of_dvd _ ⟨t - 1, rfl⟩]
  · have e : P - 1 = (t - 1) * (geo t n - m * (t ^ n / (m * (t - 1)))) := by
      generalize t ^ n / (m * (t - 1)) = q at *
      grind
    rw [e, Int.mul_ediv_cancel_left _ (by omega)]
    rw [Int.sub_emod, Int.mul_emod_right, Int.sub_zero, Int.emod_emod]
theorem pow_zero_pos {n : Nat} (h : 0 < n) : (0 : Int) ^ n = 0 := by
  obtain ⟨k, rfl⟩ : ∃ k, n = k + 1 := ⟨n - 1, by omega⟩
  rw [Int.pow_succ, Int.mul_zero]
theorem geo_zero : ∀ {n : Nat}, 0 < n → geo 0 n = 1
  | 1, _ => by show (0 : Int) + 0 ^ 0 = 1; rw [Int.pow_zero]; rfl
  | n + 2, _ => by
    show geo 0 (n + 1) + 0 ^ (n + 1) = 1
    rw [geo_zero (Nat.succ_pos n), pow_zero_pos (Nat.succ_pos n)]
    rfl
theorem geo_one : ∀ n : Nat, geo 1 n = n
  | 0 => rfl
  | n + 1 => by
    show geo 1 n + 1 ^ n = ((n + 1 : Nat) : Int)
    rw [geo_one n, Int.one_pow]
    rfl
/-! ### promises -/
def pGcd : V → V → Hp → VK → XK → Prop := fun a b H Q _ => ∃ x y : Int, a = .int x ∧ b = .int y ∧ 0 ≤ x ∧ 0 ≤ y ∧ Q (.int (Int.gcd x y : Nat)) H
def pInv : V → V → Hp → VK → XK → Prop := fun a b H Q _ => ∃ x m : Int, a = .int x ∧ b = .int m ∧ 0 ≤ x ∧ 0 < m ∧ m ≤ 1000000000000 ∧ Int.gcd x m = 1 ∧ ∀ H' v, Same H H' → 0 ≤ v → v < m → x * v % m = 1 % m → Q (.int v) H'
def pChained (K : PySem.W.Frag) : V → V → Hp → VK → XK → Prop := fun a b H Q _ => ∃ (r1 r2 : Addr) (t1 p1 t2 p2 m : Int), a = .ref r1 ∧ b = .ref r2 ∧ SqT K H r1 [.int t1, .int p1, .int m] ∧ SqT K H r2 [.int t2, .int p2, .int m] ∧ Rule t1 p1 m ∧ Rule t2 p2 m ∧
  ∀ H' q, Same H H' → H q = none → H' q = some (.tup [.int (t2 * t1 % m), .int ((t2 * p1 + p2) % m), .int m]) → Q (.ref q) H'
def pRos (K : PySem.W.Frag) : V → V → Hp → VK → XK → Prop := fun a b H Q _ => ∃ (r : Addr) (t p m n : Int), a = .ref r ∧ b = .int n ∧ SqT K H r [.int t, .int p, .int m] ∧ Rule t p m ∧ 0 ≤ n ∧
  ∀ H' q, Same H H' → H' q = some (.tup [.int (rsT t m n.toNat), .int (rsP t p m n.toNat), .int m]) → Q (.ref q) H'
def pRback (K : PySem.W.Frag) (CB : Addr) : V → Hp → VK → XK → Prop := fun a H Q E => ∃ (r : Addr) (t p m : Int), a = .ref r ∧ SqT K H r [.int t, .int p, .int m] ∧ Rule t p m ∧
  (Int.gcd t m = 1 → ∀ H' q u, Same H H' → H q = none → 0 ≤ u → u < m → t * u % m = 1 % m → H' q = some (.tup [.int u, .int (-u * p % m), .int m]) → Q (.ref q) H') ∧ (Int.gcd t m ≠ 1 → E (.ref CB) none H)
def pJump (K : PySem.W.Frag) (CN CB : Addr) : V → V → V → Hp → VK → XK → Prop := fun a b c H Q E => ∃ (r : Addr) (t p m s n : Int), a = .ref r ∧ b = .int s ∧ c = .int n ∧ SqT K H r [.int t, .int p, .int m] ∧ Rule t p m ∧
  (¬ (0 ≤ s ∧ s < m) → Bad CN s H E) ∧ (0 ≤ s ∧ s < m → 0 ≤ n → ∀ H', Same H H' → Q (.int (ahd t p m n.toNat s)) H') ∧
  (0 ≤ s ∧ s < m → n < 0 → Int.gcd t m = 1 → ∀ H' y, Same H H' → Back t p m (-n).toNat s y → Q (.int y) H') ∧ (0 ≤ s ∧ s < m → n < 0 → Int.gcd t m ≠ 1 → E (.ref CB) none H)
end Tw
namespace Tw
open PySem PySem.Spec PyProof.Rows L2
/-- an error without a number: its kind's name alone -/
def pKindO (C : Addr) (nm : Str) : V → Hp → VK → XK → Prop := fun a H Q _ => ∃ e : Addr, a = .ref e ∧ H e = some (exv e (.ref C) none) ∧ ∀ H' p, Same H H' → H p = none → H' p = some (.tup [.str nm]) → Q (.ref p) H'
def pPow : V → V → V → Hp → VK → XK → Prop := fun a b c H Q _ => ∃ x n m : Int, a = .int x ∧ b = .int n ∧ c = .int m ∧ 0 ≤ x ∧ x ≤ 1000000000000 ∧ 0 ≤ n ∧ 0 < m ∧ m ≤ 1000000000000000000000000 ∧ Q (.int (x ^ n.toNat % m)) H
def pShares (K : PySem.W.Frag) : V → V → Hp → VK → XK → Prop := fun a b H Q _ => ∃ (r : Addr) (t p m n : Int), a = .ref r ∧ b = .int n ∧ SqT K H r [.int t, .int p, .int m] ∧ Rule t p m ∧ 0 ≤ n ∧
  ∀ H' q, Same H H' → H q = none → H' q = some (.lst [.int (t ^ n.toNat % m), .int (geo t n.toNat % m)]) → Q (.ref q) H'
def pAhead (K : PySem.W.Frag) : V → V → V → Hp → VK → XK → Prop := fun a b c H Q _ => ∃ (r : Addr) (t p m s n : Int), a = .ref r ∧ b = .int s ∧ c = .int n ∧ SqT K H r [.int t, .int p, .int m] ∧ Rule t p m ∧ 0 ≤ s ∧ s < m ∧ 0 ≤ n ∧ ∀ H', Same H H' → Q (.int (ahd t p m n.toNat s)) H'
theorem ahd_shares (t p m : Int) (n : Nat) (s : Int) : (t ^ n % m * s + geo t n % m * p) % m = ahd t p m n s := by
  unfold ahd
  rw [Int.add_emod, Int.mul_emod, Int.emod_emod, ← Int.mul_emod, Int.mul_emod (geo t n % m), Int.emod_emod, ← Int.mul_emod, ← Int.add_emod, Int.mul_comm (geo t n)]
def pStepsL : V → Hp → VK → XK → Prop := fun a H Q _ => ∃ (d : Addr) (n : Nat), a = .ref d ∧ Deck H d n ∧ n + 5 ≤ 100000000 ∧ ∀ (H' : Hp) (v : Int), But d H H' → Deck H' d (n + 5) → Q (.int v) H'
def pTold3 (K : PySem.W.Frag) : V → V → V → Hp → VK → XK → Prop := fun a b c H Q _ => ∃ (r : Addr) (t p m s n : Int), a = .ref r ∧ b = .int s ∧ c = .int n ∧ SqT K H r [.int t, .int p, .int m] ∧ Rule t p m ∧
  (¬ (0 ≤ s ∧ s < m) → ∀ H' q, Same H H' → H q = none → H' q = some (.tup [.str "number", .int s]) → Q (.ref q) H') ∧
  (0 ≤ s ∧ s < m → 0 ≤ n → ∀ H' q, Same H H' → H q = none → H' q = some (.lst [.int (ahd t p m n.toNat s)]) → Q (.ref q) H') ∧
  (0 ≤ s ∧ s < m → n < 0 → Int.gcd t m = 1 → ∀ H' q y, Same H H' → H q = none → Back t p m (-n).toNat s y → H' q = some (.lst [.int y]) → Q (.ref q) H') ∧
  (0 ≤ s ∧ s < m → n < 0 → Int.gcd t m ≠ 1 → ∀ H' q, Same H H' → H q = none → H' q = some (.tup [.str "back"]) → Q (.ref q) H')
def pRight3 (K : PySem.W.Frag) : V → V → V → Hp → VK → XK → Prop := fun a b c H Q _ => ∃ (r : Addr) (t p m s n : Int), a = .ref r ∧ b = .int s ∧ c = .int n ∧ SqT K H r [.int t, .int p, .int m] ∧ Rule t p m ∧ 0 ≤ s ∧ s < m ∧ ∀ H', Same H H' → Q (.bl true) H'
theorem shp_s {x : Str} (h : PyData.canLay0 (.str x) = true) : SeqAt.shaped (.tuple [.str x]) = true := by
  show (PyData.canLay0 (.tuple [.str x]) && decide (PyData.depth (.tuple [.str x]) ≤ 64)) = true
  simp [PyData.canLay0, PyData.canLayAll0] at h ⊢
  exact ⟨h, of_decide_eq_true rfl⟩
theorem shp_back : SeqAt.shaped (.tuple [.str "back"]) = true := shp_s (by decide +kernel)
end Tw
namespace Tw
theorem pow_em (a m : Int) : ∀ k : Nat, (a % m) ^ k % m = a ^ k % m
  | 0 => by rw [Int.pow_zero, Int.pow_zero]
  | k + 1 => by rw [Int.pow_succ, Int.pow_succ, Int.mul_emod, pow_em a m k, Int.emod_emod, ← Int.mul_emod]
end Tw

/-! All numbers in one round: when. -/
namespace Tw
open PySem PySem.Spec PyProof.Rows L2
/-! ### primes -/
def Prm (q : Int) : Prop := 2 ≤ q ∧ ∀ d : Int, 0 < d → d ∣ q → d = 1 ∨ d = q
theorem prm_ex : ∀ (k : Nat) (n : Int), n.toNat ≤ k → 2 ≤ n → ∃ q, Prm q ∧ q ∣ n
  | 0, n, hk, h => by omega
  | k + 1, n, hk, h => by
    by_cases hp : ∀ d : Int, 0 < d → d ∣ n → d = 1 ∨ d = n
    · exact ⟨n, ⟨h, hp⟩, ⟨1, by omega⟩⟩
    · obtain ⟨d, hd⟩ := Classical.not_forall.mp hp
      have d0 : 0 < d := Classical.byContradiction fun z => hd fun y => absurd y z
      have d1 : d ∣ n := Classical.byContradiction fun z => hd fun _ y => absurd y z
      have d2 : ¬ (d = 1 ∨ d = n) := fun z => hd fun _ _ => z
      have d3 := Int.le_of_dvd (by omega) d1
      obtain ⟨q, hq, hqd⟩ := prm_ex k d (by omega) (by omega)
      exact ⟨q, hq, Int.dvd_trans hqd d1⟩
theorem prm_of {n : Int} (h : 2 ≤ n) : ∃ q, Prm q ∧ q ∣ n := prm_ex n.toNat n (Nat.le_refl _) h
theorem prm_cop {q x : Int} (hq : Prm q) (h : ¬ q ∣ x) : Int.gcd q x = 1 := by
  have g1 : ((Int.gcd q x : Nat) : Int) ∣ q := Int.gcd_dvd_left ..
  have g2 : ((Int.gcd q x : Nat) : Int) ∣ x := Int.gcd_dvd_right ..
  have q2 := hq.1
  have g0 : 0 < ((Int.gcd q x : Nat) : Int) := by
    have : Int.gcd q x ≠ 0 := fun z => by
      have := (Int.gcd_eq_zero_iff.mp z).1
      omega
    omega
  rcases hq.2 _ g0 g1 with e | e
  · omega
  · exact absurd (e ▸ g2) h
theorem cop_dvd {a b c : Int} (h : Int.gcd a b = 1) (d : a ∣ b * c) : a ∣ c := by
  refine Int.natAbs_dvd_natAbs.mp ?_
  have h1 := Int.natAbs_dvd_natAbs.mpr d
  rw [Int.natAbs_mul] at h1
  exact Nat.Coprime.dvd_of_dvd_mul_left (show Nat.Coprime a.natAbs b.natAbs from h) h1
theorem prm_mul {q a b : Int} (hq : Prm q) (h : q ∣ a * b) : q ∣ a ∨ q ∣ b := by
  by_cases ha : q ∣ a
  · exact .inl ha
  · exact .inr (cop_dvd (prm_cop hq ha) h)
theorem prm_pow {q a : Int} (hq : Prm q) : ∀ n : Nat, q ∣ a ^ n → q ∣ a
  | 0, h => by
    rw [Int.pow_zero] at h
    have := Int.le_of_dvd (by decide) h
    have := hq.1
    omega
  | n + 1, h => by
    rw [Int.pow_succ] at h
    rcases prm_mul hq h with h | h
    · exact prm_pow hq n h
    · exact h
theorem cop_of_prm {a b : Int} (hb : 0 < b) (h : ∀ q, Prm q → q ∣ a → q ∣ b → False) : Int.gcd a b = 1 := by
  refine Classical.byContradiction fun hn => ?_
  have g2 : ((Int.gcd a b : Nat) : Int) ∣ b := Int.gcd_dvd_right ..
  have g1 : ((Int.gcd a b : Nat) : Int) ∣ a := Int.gcd_dvd_left ..
  have : Int.gcd a b ≠ 0 := fun z => by
    have := (Int.gcd_eq_zero_iff.mp z).2
    omega
  obtain ⟨q, hq, hd⟩ := prm_of (n := ((Int.gcd a b : Nat) : Int)) (by omega)
  exact h q hq (Int.dvd_trans hd g1) (Int.dvd_trans hd g2)
/-- each prime of m divides a -/
def AllP (m a : Int) : Prop := ∀ q, Prm q → q ∣ m → q ∣ a
theorem allP_pow : ∀ (j : Nat) (m a : Int), 0 < m → m < 2 ^ j → AllP m a → m ∣ a ^ j
  | 0, m, a, h0, h1, _ => by rw [Int.pow_zero] at h1; omega
  | j + 1, m, a, h0, h1, h => by
    by_cases m1 : m = 1
    · subst m1
      exact ⟨a ^ (j + 1), by omega⟩
    · obtain ⟨q, hq, c, rfl⟩ := prm_of (n := m) (by omega)
      have q2 := hq.1
      have c0 : 0 < c := by
        rcases Int.lt_or_le 0 c with h | h
        · exact h
        · have := Int.mul_nonpos_of_nonneg_of_nonpos (show 0 ≤ q by omega) h
          omega
      have c1 : 2 * c ≤ q * c := Int.mul_le_mul_of_nonneg_right q2 (by omega)
      rw [Int.pow_succ] at h1
      have ih := allP_pow j c a c0 (by omega) (fun r hr hd => h r hr (Int.dvd_trans hd ⟨q, Int.mul_comm _ _⟩))
      obtain ⟨x, hx⟩ := ih
      obtain ⟨y, hy⟩ := h q hq ⟨c, rfl⟩
      refine ⟨x * y, ?_⟩
      rw [Int.pow_succ, hx]
      conv => lhs; rhs; rw [hy]
      grind
theorem allP_iff {m a : Int} (h0 : 0 < m) (h1 : m < 2 ^ 40) : AllP m a ↔ m ∣ a ^ 40 :=
  ⟨allP_pow 40 m a h0 h1, fun h q hq hd => prm_pow hq 40 (Int.dvd_trans hd h)⟩
/-! ### sums of powers by a number that leaves 1 -/
theorem geo_cong {a t : Int} (h : a ∣ t - 1) : ∀ n : Nat, a ∣ geo t n - n
  | 0 => ⟨0, by rw [Int.mul_zero]; rfl⟩
  | n + 1 => by
    obtain ⟨x, hx⟩ := geo_cong h n
    have hp : a ∣ t ^ n - 1 := by
      have := geo_mul t n
      obtain ⟨y, hy⟩ := h
      exact ⟨y * geo t n, by rw [← this, hy]; grind⟩
    obtain ⟨z, hz⟩ := hp
    refine ⟨x + z, ?_⟩
    show geo t n + t ^ n - ((n + 1 : Nat) : Int) = _
    rw [Int.natCast_succ]
    grind
theorem geo_comp (t : Int) (q : Nat) : ∀ k : Nat, geo t (q * k) = geo t q * geo (t ^ q) k
  | 0 => by rw [Nat.mul_zero]; show (0 : Int) = _ * 0; grind
  | k + 1 => by
    rw [Nat.mul_add, Nat.mul_one, geo_add, geo_comp t q k]
    show _ = geo t q * (geo (t ^ q) k + (t ^ q) ^ k)
    rw [← Int.pow_mul]
    grind
/-- the sum of i below n, twice -/
theorem geo_two (t : Int) : ∀ n : Nat, ∃ c : Int, 2 * geo t n = 2 * n + (t - 1) * (n * (n - 1)) + (t - 1) * (t - 1) * c
  | 0 => ⟨0, by show (2 : Int) * 0 = _; grind⟩
  | n + 1 => by
    obtain ⟨c, hc⟩ := geo_two t n
    have hp : ∃ e : Int, t ^ n = 1 + (t - 1) * n + (t - 1) * (t - 1) * e := by
      have g := geo_mul t n
      obtain ⟨d, hd⟩ := geo_cong (a := t - 1) (t := t) ⟨1, by omega⟩ n
      exact ⟨d, by
        have : geo t n = n + (t - 1) * d := by omega
        rw [this] at g
        grind⟩
    obtain ⟨e, he⟩ := hp
    refine ⟨c + 2 * e, ?_⟩
    show 2 * (geo t n + t ^ n) = _
    rw [Int.natCast_succ]
    generalize geo t n = G at *
    generalize t ^ n = T at *
    grind
/-- a prime's sum of powers: the prime once -/
theorem geo_prm {q t : Int} (hq : Prm q) (h : q ∣ t - 1) (h4 : q = 2 → 4 ∣ t - 1) : ∃ u, geo t q.toNat = q * u ∧ q ∣ u - 1 := by
  have q2 := hq.1
  have cq : ((q.toNat : Nat) : Int) = q := Int.toNat_of_nonneg (by omega)
  by_cases e2 : q = 2
  · obtain ⟨b, hb⟩ := h4 e2
    subst e2
    refine ⟨1 + 2 * b, ?_, ⟨b, by omega⟩⟩
    show 0 + t ^ 0 + t ^ 1 = _
    rw [Int.pow_zero, Int.pow_one]
    omega
  · obtain ⟨c, hc⟩ := geo_two t q.toNat
    rw [cq] at hc
    obtain ⟨x, hx⟩ := geo_cong h q.toNat
    rw [cq] at hx
    obtain ⟨b, hb⟩ := h
    refine ⟨1 + x, by grind, ?_⟩
    rw [hb] at hc
    have hz : q * (2 * x) = q * (q * (b * (q - 1) + b * b * c)) := by grind
    have hz2 : 2 * x = q * (b * (q - 1) + b * b * c) := Int.eq_of_mul_eq_mul_left (by omega) hz
    have n2 : ¬ q ∣ 2 := fun z => by
      have := Int.le_of_dvd (by decide) z
      omega
    have : q ∣ x := by
      rcases prm_mul hq (show q ∣ 2 * x from ⟨_, hz2⟩) with z | z
      · exact absurd z n2
      · exact z
    rw [show 1 + x - 1 = x by omega]
    exact this
theorem prm_prm {q r : Int} (hq : Prm q) (hr : Prm r) (h : r ∣ q) : r = q := by
  have := hr.1
  rcases hq.2 r (by omega) h with e | e
  · omega
  · exact e
theorem hd_dvd : ∀ (k : Nat) (m t : Int), m.toNat ≤ k → 0 < m → AllP m (t - 1) → (4 ∣ m → 4 ∣ t - 1) → ∀ n : Nat, m ∣ geo t n ↔ m ∣ (n : Int)
  | 0, m, t, hk, h0, _, _, n => by omega
  | k + 1, m, t, hk, h0, hA, h4, n => by
    by_cases m1 : m = 1
    · subst m1
      exact ⟨fun _ => ⟨n, by omega⟩, fun _ => ⟨geo t n, by omega⟩⟩
    · obtain ⟨q, hq, c, rfl⟩ := prm_of (n := m) (by omega)
      have q2 := hq.1
      have cq : ((q.toNat : Nat) : Int) = q := Int.toNat_of_nonneg (by omega)
      have c0 : 0 < c := by
        rcases Int.lt_or_le 0 c with h | h
        · exact h
        · have := Int.mul_nonpos_of_nonneg_of_nonpos (show 0 ≤ q by omega) h
          omega
      have c1 : 2 * c ≤ q * c := Int.mul_le_mul_of_nonneg_right q2 (by omega)
      have qa : q ∣ t - 1 := hA q hq ⟨c, rfl⟩
      have q4 : q = 2 → 4 ∣ t - 1 ∨ ¬ (2 ∣ c) := fun e => by
        by_cases hc : (2 : Int) ∣ c
        · obtain ⟨d, rfl⟩ := hc
          exact .inl (h4 (by subst e; exact ⟨d, by omega⟩))
        · exact .inr hc
      -- the case that m is twice an odd number is by itself: 2 once
      have gq : ∃ u, geo t q.toNat = q * u ∧ ∀ r, Prm r → r ∣ c → r ∣ u → False := by
        by_cases e2 : q = 2 ∧ ¬ (2 ∣ c)
        · obtain ⟨rfl, hc⟩ := e2
          obtain ⟨b, hb⟩ := qa
          refine ⟨1 + b, ?_, fun r hr hrc hru => ?_⟩
          · show 0 + t ^ 0 + t ^ 1 = _
            rw [Int.pow_zero, Int.pow_one]
            omega
          · have ra : r ∣ t - 1 := hA r hr (Int.dvd_trans hrc ⟨2, Int.mul_comm _ _⟩)
            obtain ⟨x, hx⟩ := hru
            obtain ⟨y, hy⟩ := ra
            have : r ∣ 2 := ⟨2 * x - y, by grind⟩
            have e := prm_prm hq hr this
            subst e
            exact hc hrc
        · have q4' : q = 2 → 4 ∣ t - 1 := fun e => (q4 e).resolve_right fun z => e2 ⟨e, z⟩
          obtain ⟨u, hu, hu1⟩ := geo_prm hq qa q4'
          refine ⟨u, hu, fun r hr hrc hru => ?_⟩
          have ra : r ∣ t - 1 := hA r hr (Int.dvd_trans hrc ⟨q, Int.mul_comm _ _⟩)
          have hg := geo_cong ra q.toNat
          rw [hu, cq] at hg
          have rq : r ∣ q := by
            obtain ⟨x, hx⟩ := hru
            obtain ⟨y, hy⟩ := hg
            exact ⟨q * x - y, by rw [hx] at hy; grind⟩
          have e := prm_prm hq hr rq
          subst e
          obtain ⟨x, hx⟩ := hru
          obtain ⟨y, hy⟩ := hu1
          have : r ∣ 1 := ⟨x - y, by grind⟩
          have := Int.le_of_dvd (by decide) this
          omega
      obtain ⟨u, hu, hcop⟩ := gq
      have gcu : Int.gcd c u = 1 := by
        rw [Int.gcd_comm]
        exact cop_of_prm c0 fun r hr h1 h2 => hcop r hr h2 h1
      have t1 : t - 1 ∣ t ^ q.toNat - 1 := ⟨geo t q.toNat, (geo_mul t q.toNat).symm⟩
      have ih := hd_dvd k c (t ^ q.toNat) (by omega) c0 (fun r hr hd => Int.dvd_trans (hA r hr (Int.dvd_trans hd ⟨q, Int.mul_comm _ _⟩)) t1) (fun h => Int.dvd_trans (h4 (Int.dvd_trans h ⟨q, Int.mul_comm _ _⟩)) t1)
      constructor
      · intro h
        have hqn : q ∣ (n : Int) := by
          have h1 : q ∣ geo t n := Int.dvd_trans ⟨c, rfl⟩ h
          obtain ⟨x, hx⟩ := h1
          obtain ⟨y, hy⟩ := geo_cong qa n
          exact ⟨x - y, by grind⟩
        obtain ⟨j, hj⟩ := hqn
        have j0 : 0 ≤ j := by
          rcases Int.lt_or_le j 0 with h | h
          · have := Int.mul_neg_of_pos_of_neg (show 0 < q by omega) h
            omega
          · exact h
        obtain ⟨J, rfl⟩ := Int.eq_ofNat_of_zero_le j0
        have en : n = q.toNat * J := by
          have : ((q.toNat * J : Nat) : Int) = n := by rw [Int.natCast_mul, cq, hj]
          omega
        rw [en, geo_comp, hu] at h
        have h2 : c ∣ u * geo (t ^ q.toNat) J := Int.dvd_of_mul_dvd_mul_left (show q ≠ 0 by omega) (by rw [← Int.mul_assoc]; exact h)
        obtain ⟨z, hz⟩ := (ih J).mp (cop_dvd gcu h2)
        exact ⟨z, by rw [hj, hz]; grind⟩
      · rintro ⟨z, hz⟩
        have j0 : 0 ≤ c * z := by
          rcases Int.lt_or_le (c * z) 0 with h | h
          · have := Int.mul_neg_of_pos_of_neg (show 0 < q by omega) h
            rw [← Int.mul_assoc] at this
            omega
          · exact h
        obtain ⟨J, hJ⟩ := Int.eq_ofNat_of_zero_le j0
        have en : n = q.toNat * J := by
          have : ((q.toNat * J : Nat) : Int) = n := by rw [Int.natCast_mul, cq, ← hJ, hz, Int.mul_assoc]
          omega
        rw [en, geo_comp, hu]
        obtain ⟨y, hy⟩ := (ih J).mpr ⟨z, hJ.symm⟩
        exact ⟨u * y, by rw [hy]; grind⟩
/-! ### one round of all numbers -/
def Full (t p m : Int) : Prop := (∀ n : Nat, 0 < n → (n : Int) < m → p * geo t n % m ≠ 0) ∧ p * geo t m.toNat % m = 0
def ClsR (t p m : Int) : Prop := Int.gcd p m = 1 ∧ AllP m (t - 1) ∧ (4 ∣ m → 4 ∣ t - 1)
theorem full_of {t p m : Int} (m0 : 0 < m) (h : ClsR t p m) : Full t p m := by
  obtain ⟨h1, h2, h3⟩ := h
  have key : ∀ n : Nat, p * geo t n % m = 0 ↔ m ∣ (n : Int) := fun n => by
    rw [← hd_dvd m.toNat m t (Nat.le_refl _) m0 h2 h3 n]
    constructor
    · intro h
      exact cop_dvd (by rw [Int.gcd_comm]; exact h1) (Int.dvd_of_emod_eq_zero h)
    · rintro ⟨x, hx⟩
      exact Int.emod_eq_zero_of_dvd ⟨p * x, by rw [hx]; grind⟩
  constructor
  · intro n n0 n1 h
    have := Int.le_of_dvd (by omega) ((key n).mp h)
    omega
  · exact (key m.toNat).mpr ⟨1, by omega⟩
theorem bez : ∀ (a b : Nat), ∃ x y : Int, (a : Int) * x + (b : Int) * y = (Nat.gcd a b : Nat) := by
  intro a b
  induction a, b using Nat.gcd.induction with
  | H0 n => exact ⟨0, 1, by rw [Nat.gcd_zero_left]; grind⟩
  | H1 m n hm ih =>
    obtain ⟨x, y, h⟩ := ih
    rw [Nat.gcd_rec]
    have e : (n : Int) = (m : Int) * ((n / m : Nat) : Int) + ((n % m : Nat) : Int) := by
      have := Nat.div_add_mod n m
      rw [← Int.natCast_mul, ← Int.natCast_add, this]
    exact ⟨y - ((n / m : Nat) : Int) * x, x, by rw [← h, e]; grind⟩
theorem ahd_add (t p m : Int) (a b : Nat) (x : Int) : ahd t p m (a + b) x = ahd t p m b (ahd t p m a x) := by
  unfold ahd
  have e : (t ^ b * ((t ^ a * x + p * geo t a) % m) + p * geo t b) % m = (t ^ b * (t ^ a * x + p * geo t a) + p * geo t b) % m := by
    rw [Int.add_emod, Int.mul_emod, Int.emod_emod, ← Int.mul_emod, ← Int.add_emod]
  rw [e, Nat.add_comm a b, geo_add, Int.pow_add]
  congr 1
  grind
theorem ahd_zero (t p m : Int) (n : Nat) : ahd t p m n 0 = p * geo t n % m := by
  unfold ahd
  rw [Int.mul_zero, Int.zero_add]
theorem full_surj {t p m : Int} (m0 : 0 < m) (h : Full t p m) {x : Int} (x0 : 0 ≤ x) (x1 : x < m) : ∃ n : Nat, (n : Int) < m ∧ ahd t p m n 0 = x := by
  obtain ⟨h1, h2⟩ := h
  refine Classical.byContradiction fun hn => ?_
  have hno : ∀ n : Nat, (n : Int) < m → ahd t p m n 0 ≠ x := fun n hl e => hn ⟨n, hl, e⟩
  have inj : ∀ i j : Nat, i < j → (j : Int) < m → ahd t p m i 0 ≠ ahd t p m j 0 := by
    intro i j hij hj e
    have a1 := ahd_add t p m j (m.toNat - j) 0
    rw [show j + (m.toNat - j) = m.toNat by omega, ahd_zero t p m m.toNat, h2, ← e, ← ahd_add, ahd_zero] at a1
    exact h1 (i + (m.toNat - j)) (by omega) (by omega) a1.symm
  have nd : (((List.range m.toNat).map fun n => ahd t p m n 0)).Nodup := by
    rw [List.nodup_iff_pairwise_ne, List.pairwise_map]
    refine List.Pairwise.imp_of_mem (fun {a b} ha hb hab => ?_) List.pairwise_lt_range
    exact inj a b hab (by have := List.mem_range.mp hb; omega)
  have rg : Rng m (x :: (List.range m.toNat).map fun n => ahd t p m n 0) := by
    intro y hy
    rcases List.mem_cons.mp hy with rfl | hy
    · exact ⟨x0, x1⟩
    · obtain ⟨n, _, rfl⟩ := List.mem_map.mp hy
      exact ahd_rng m0 n 0
  have nd2 : (x :: (List.range m.toNat).map fun n => ahd t p m n 0).Nodup := by
    refine List.nodup_cons.mpr ⟨fun hm => ?_, nd⟩
    obtain ⟨n, hl, e⟩ := List.mem_map.mp hm
    exact hno n (by have := List.mem_range.mp hl; omega) e
  have := int_len nd2 rg
  rw [List.length_cons, List.length_map, List.length_range] at this
  omega
theorem cls_of {t p m : Int} (m0 : 0 < m) (h : Full t p m) : ClsR t p m := by
  have sur := fun {x : Int} => full_surj m0 h (x := x)
  have dv : ∀ n : Nat, m ∣ p * geo t n - ahd t p m n 0 := fun n => by
    rw [ahd_zero]
    exact ⟨p * geo t n / m, by have := Int.mul_ediv_add_emod (p * geo t n) m; omega⟩
  have hp : Int.gcd p m = 1 := cop_of_prm m0 fun q hq h1 h2 => by
    have := hq.1
    have := Int.le_of_dvd m0 h2
    obtain ⟨n, _, e⟩ := sur (x := 1) (by decide) (by omega)
    have d := Int.dvd_trans h2 (dv n)
    rw [e] at d
    obtain ⟨x, hx⟩ := d
    obtain ⟨y, hy⟩ := h1
    have : q ∣ 1 := ⟨y * geo t n - x, by rw [hy] at hx; grind⟩
    have := Int.le_of_dvd (by decide) this
    omega
  have np : ∀ q, Prm q → q ∣ m → ¬ q ∣ p := fun q hq h1 h2 => by
    have : ((1 : Nat) : Int) = 1 := rfl
    have d : q ∣ ((Int.gcd p m : Nat) : Int) := by
      have := Int.dvd_coe_gcd h2 h1
      exact this
    rw [hp] at d
    have := Int.le_of_dvd (by decide) d
    have := hq.1
    omega
  have hA : AllP m (t - 1) := by
    intro q hq hqm
    refine Classical.byContradiction fun hn => ?_
    have q2 := hq.1
    have qm := Int.le_of_dvd m0 hqm
    have g1 := prm_cop hq hn
    obtain ⟨v, u, hb⟩ := bez q.natAbs (t - 1).natAbs
    have hg : Nat.gcd q.natAbs (t - 1).natAbs = 1 := g1
    rw [hg] at hb
    have hb2 : ∃ u v : Int, (t - 1) * u + q * v = 1 := by
      rcases Int.natAbs_eq (t - 1) with e | e
      · refine ⟨u, v, ?_⟩
        have eq : ((q.natAbs : Nat) : Int) = q := by omega
        rw [eq] at hb
        have e' : (((t - 1).natAbs : Nat) : Int) = t - 1 := e.symm
        rw [e'] at hb
        grind
      · refine ⟨-u, v, ?_⟩
        have eq : ((q.natAbs : Nat) : Int) = q := by omega
        rw [eq] at hb
        have e' : (((t - 1).natAbs : Nat) : Int) = -(t - 1) := by omega
        rw [e'] at hb
        grind
    obtain ⟨u, v, huv⟩ := hb2
    have xr := mod_bd (-p * u) (show 0 < q by omega)
    obtain ⟨n, hn, e⟩ := sur (x := -p * u % q) xr.1 (by omega)
    have xd : q ∣ ahd t p m n 0 + p * u := by
      rw [e]
      exact ⟨-(-p * u / q), by have := Int.mul_ediv_add_emod (-p * u) q; grind⟩
    have stay : ∀ j : Nat, q ∣ ahd t p m (n + j) 0 + p * u := by
      intro j
      induction j with
      | zero => exact xd
      | succ j ih =>
        rw [← Nat.add_assoc, ahd_add t p m (n + j) 1]
        obtain ⟨c, hc⟩ := ih
        generalize ahd t p m (n + j) 0 = y at *
        unfold ahd
        have g1 : geo t 1 = 1 := by show (0 : Int) + t ^ 0 = 1; rw [Int.pow_zero]; rfl
        rw [g1, Int.pow_one, Int.mul_one]
        obtain ⟨b, rfl⟩ := hqm
        have a1 := Int.mul_ediv_add_emod (t * y + p) (q * b)
        generalize (t * y + p) / (q * b) = d1 at *
        generalize (t * y + p) % (q * b) = d2 at *
        have e1 : y = q * c - p * u := by omega
        subst e1
        refine ⟨t * c + p * v - b * d1, ?_⟩
        have e2 : (t - 1) * u = 1 - q * v := by omega
        have e3 : d2 + p * u = t * (q * c - p * u) + p + p * u - q * b * d1 := by omega
        rw [e3]
        have e4 : t * (q * c - p * u) + p + p * u - q * b * d1 = t * (q * c) - p * ((t - 1) * u) + p - q * b * d1 := by grind
        rw [e4, e2]
        grind
    have l := stay (m.toNat - n)
    rw [show n + (m.toNat - n) = m.toNat by omega, ahd_zero, h.2, Int.zero_add] at l
    rcases prm_mul hq l with l | l
    · exact np q hq hqm l
    · obtain ⟨c, hc⟩ := l
      have : q ∣ 1 := ⟨(t - 1) * c + v, by rw [hc] at huv; grind⟩
      have := Int.le_of_dvd (by decide) this
      omega
  refine ⟨hp, hA, fun h4 => ?_⟩
  have m4 := Int.le_of_dvd m0 h4
  have p2 : Prm 2 := ⟨by decide, fun d d0 hd => by
    have := Int.le_of_dvd (by decide) hd
    omega⟩
  have m2 : (2 : Int) ∣ m := Int.dvd_trans ⟨2, rfl⟩ h4
  obtain ⟨b, hb⟩ := hA 2 p2 m2
  refine Classical.byContradiction fun hn => ?_
  have t3 : 4 ∣ 1 + t := by omega
  have ev : ∀ k : Nat, 4 ∣ geo t (2 * k) := fun k => by
    rw [geo_comp]
    have : geo t 2 = 1 + t := by show 0 + t ^ 0 + t ^ 1 = _; rw [Int.pow_zero, Int.pow_one]; omega
    rw [this]
    obtain ⟨c, hc⟩ := t3
    exact ⟨c * geo (t ^ 2) k, by rw [hc]; grind⟩
  obtain ⟨n, _, e⟩ := sur (x := 2) (by decide) (by omega)
  have d := Int.dvd_trans h4 (dv n)
  rw [e] at d
  obtain ⟨x, hx⟩ := d
  have hn2 : n = 2 * (n / 2) ∨ n = 1 + 2 * (n / 2) := by omega
  rcases hn2 with e2 | e2
  · obtain ⟨c, hc⟩ := ev (n / 2)
    rw [← e2] at hc
    rw [hc] at hx
    have : (4 : Int) ∣ 2 := ⟨p * c - x, by grind⟩
    have := Int.le_of_dvd (by decide) this
    omega
  · obtain ⟨c, hc⟩ := ev (n / 2)
    have g1 : geo t n = 1 + t * (4 * c) := by
      rw [e2, geo_add, hc]
      show 0 + t ^ 0 + t ^ 1 * (4 * c) = _
      rw [Int.pow_zero, Int.pow_one]
      omega
    rw [g1] at hx
    have : (2 : Int) ∣ p := ⟨1 + 2 * x - p * t * 2 * c, by grind⟩
    exact np 2 p2 m2 this
theorem full_iff {t p m : Int} (m0 : 0 < m) : Full t p m ↔ ClsR t p m := ⟨cls_of m0, full_of m0⟩
def pEach : V → V → Hp → VK → XK → Prop := fun a b H Q _ => ∃ m x : Int, a = .int m ∧ b = .int x ∧ 0 < m ∧ m ≤ 1000000000000 ∧ 0 ≤ x ∧ ∀ b : Bool, (b = true ↔ AllP m x) → Q (.bl b) H
def pOneR (K : PySem.W.Frag) : V → Hp → VK → XK → Prop := fun a H Q _ => ∃ (r : Addr) (t p m : Int), a = .ref r ∧ SqT K H r [.int t, .int p, .int m] ∧ Rule t p m ∧ ∀ b : Bool, (b = true ↔ ClsR t p m) → Q (.bl b) H
def pGoes (K : PySem.W.Frag) : V → Hp → VK → XK → Prop := fun a H Q _ => ∃ (r : Addr) (t p m : Int), a = .ref r ∧ SqT K H r [.int t, .int p, .int m] ∧ Rule t p m ∧ ∀ b : Bool, (b = true ↔ Full t p m) → Q (.bl b) H
theorem allP_mod {m x : Int} : AllP m (x % m) ↔ AllP m x := by
  constructor
  · intro h q hq hd
    obtain ⟨c, hc⟩ := h q hq hd
    obtain ⟨d, hd⟩ := hd
    have := Int.mul_ediv_add_emod x m
    exact ⟨d * (x / m) + c, by generalize x / m = y at *; generalize x % m = z at *; subst hd; grind⟩
  · intro h q hq hd
    obtain ⟨c, hc⟩ := h q hq hd
    obtain ⟨d, hd⟩ := hd
    have := Int.mul_ediv_add_emod x m
    exact ⟨c - d * (x / m), by generalize x / m = y at *; generalize x % m = z at *; subst hd; grind⟩
theorem iff_eq {a b : Bool} {P : Prop} (h : a = true ↔ P) (k : b = true ↔ P) : a = b := by
  cases a with
  | true => exact (k.mpr (h.mp rfl)).symm
  | false =>
    cases b with
    | false => rfl
    | true => exact absurd (h.mpr (k.mp rfl)) Bool.false_ne_true
end Tw

/-! Rounds as a whole. -/
namespace Tw
open PySem PySem.Spec PyProof.Rows L2
/-- from s: j numbers ahead of a round of c -/
structure Rho (f : Int → Int) (s : Int) (j c : Nat) : Prop where
  pos : 0 < c
  ret : itr f (j + c) s = itr f j s
  one : ∀ a b, a < j + c → b < j + c → itr f a s = itr f b s → a = b
section
variable {f : Int → Int} {s : Int} {j c : Nat}
theorem Rho.uniq {i d : Nat} (h : Rho f s j c) (g : Rho f s i d) : j = i ∧ c = d := by
  have h0 := h.pos
  have g0 := g.pos
  have e : j + c = i + d := by
    rcases Nat.lt_trichotomy (j + c) (i + d) with l | l | l
    · have := g.one _ _ l (by omega) h.ret
      omega
    · exact l
    · have := h.one _ _ l (by omega) g.ret
      omega
  have r1 := h.ret
  have r2 := g.ret
  rw [e] at r1
  have := h.one j i (by omega) (by omega) (r1.symm.trans r2)
  omega
theorem Rho.nd (h : Rho f s j c) : (([] : List Int) ++ orb f (j + c) s).Nodup := by
  rw [List.nil_append]
  unfold orb
  rw [List.nodup_iff_pairwise_ne, List.pairwise_map]
  refine List.Pairwise.imp_of_mem (fun {a b} ha hb l e => ?_) (List.pairwise_lt_range (n := j + c))
  rw [List.mem_range] at ha hb
  have := h.one a b ha hb e
  omega
theorem rho_of_per {x : Int} {L : Nat} (h : Per f L x) : Rho f x 0 L := by
  obtain ⟨h0, h1, h2⟩ := h
  have key : ∀ a b, a < b → b < L → itr f a x ≠ itr f b x := fun a b l lb e => by
    have e2 := congrArg (itr f (L - b)) e
    rw [← itr_add, ← itr_add, show L - b + b = L by omega, h1] at e2
    exact h2 (L - b + a) (by omega) (by omega) e2
  refine ⟨h0, by rw [Nat.zero_add]; exact h1, fun a b ha hb e => ?_⟩
  rcases Nat.lt_trichotomy a b with l | l | l
  · exact absurd e (key a b l (by omega))
  · exact l
  · exact absurd e.symm (key b a l (by omega))
theorem per_of_rho {x : Int} {L : Nat} (h : Rho f x 0 L) : Per f L x := by
  refine ⟨h.pos, ?_, fun d d1 d0 e => ?_⟩
  · have := h.ret
    rw [Nat.zero_add] at this
    exact this
  · have := h.one d 0 (by omega) (by have := h.pos; omega) e
    omega
theorem Rho.per (h : Rho f s j c) {k : Nat} (hk : j ≤ k) : Per f c (itr f k s) := by
  have h0 := h.pos
  obtain ⟨i, i1, i2, i3⟩ := cyc_in (f := f) (n := j + c) (j := j) (x := s) (by omega) h.ret k hk
  rw [i3]
  have := walk_cyc h.nd (by omega) h.ret i1 i2
  rw [show j + c - j = c by omega] at this
  exact this
theorem Rho.shift (h : Rho f s j c) (k : Nat) : Rho f (itr f k s) (j - k) c := by
  by_cases l : j ≤ k
  · rw [show j - k = 0 by omega]
    exact rho_of_per (h.per l)
  · refine ⟨h.pos, ?_, fun a b ha hb e => ?_⟩
    · rw [← itr_add, ← itr_add, show j - k + c + k = j + c by omega, show j - k + k = j by omega]
      exact h.ret
    · rw [← itr_add, ← itr_add] at e
      have := h.one _ _ (by omega) (by omega) e
      omega
theorem Rho.mod (h : Rho f s j c) {k : Nat} (hk : j ≤ k) : itr f k s = itr f (j + (k - j) % c) s := by
  have h0 := h.pos
  induction k using Nat.strongRecOn with
  | ind k ih =>
    by_cases l : k - j < c
    · rw [Nat.mod_eq_of_lt l, show j + (k - j) = k by omega]
    · have e := ih (k - c) (by omega) (by omega)
      rw [Nat.mod_eq_sub_mod (by omega), show k - j - c = k - c - j by omega, ← e]
      have := cyc_step (f := f) (n := j + c) (j := j) (x := s) (by omega) h.ret (i := k - c) (by omega)
      rw [show k - c + (j + c - j) = k by omega] at this
      exact this
end
/-! ### the walk from a start -/
theorem rnd_rho {t p m s : Int} (m0 : 0 < m) (s0 : 0 ≤ s) (s1 : s < m) : ∃ j c : Nat, Rho (stp t p m) s j c ∧ j + c ≤ m.toNat ∧ rndW t p m s = (orb (stp t p m) (j + c) s, itr (stp t p m) (j + c) s) ∧ rndT t p m s = j ∧ rndL t p m s = c := by
  obtain ⟨n, hn, ew⟩ := wk_form (stp t p m) (m.toNat + 1) [] s
  have W := wk_good (t := t) (p := p) m0 (m.toNat + 1) [] s List.nodup_nil (fun x hx => by cases hx) ⟨s0, s1⟩ (by simp)
  rw [ew] at W
  obtain ⟨nd, rg, hy⟩ := W
  have nl := int_len nd rg
  rw [show (([] ++ orb (stp t p m) n s, itr (stp t p m) n s) : List Int × Int).1 = orb (stp t p m) n s from List.nil_append _, orb_len] at nl
  obtain ⟨jn, ej⟩ := orb_idx (f := stp t p m) (n := n) (x := s) (y := itr (stp t p m) n s) (by simpa using hy)
  generalize hj : (orb (stp t p m) n s).idxOf (itr (stp t p m) n s) = j at jn ej
  have eW : rndW t p m s = (orb (stp t p m) n s, itr (stp t p m) n s) := by
    unfold rndW
    rw [ew, List.nil_append]
  have eT : rndT t p m s = j := by
    unfold rndT
    rw [eW]
    exact congrArg Int.ofNat hj
  refine ⟨j, n - j, ⟨by omega, ?_, fun a b ha hb e => ?_⟩, by omega, ?_, eT, ?_⟩
  · rw [show j + (n - j) = n by omega]
    exact ej.symm
  · exact orb_inj nd (i := a) (j := b) (by omega) (by omega) e
  · rw [show j + (n - j) = n by omega]
    exact eW
  · unfold rndL
    rw [eT, eW]
    show ((orb (stp t p m) n s).length : Int) - j = _
    rw [orb_len]
    omega
theorem rho_rnd {t p m s : Int} {j c : Nat} (m0 : 0 < m) (s0 : 0 ≤ s) (s1 : s < m) (h : Rho (stp t p m) s j c) : rndT t p m s = j ∧ rndL t p m s = c ∧ rndW t p m s = (orb (stp t p m) (j + c) s, itr (stp t p m) (j + c) s) := by
  obtain ⟨i, d, g, _, e1, e2, e3⟩ := rnd_rho (t := t) (p := p) m0 s0 s1
  obtain ⟨rfl, rfl⟩ := h.uniq g
  exact ⟨e2, e3, e1⟩
theorem stV_in {t p m s : Int} {j c k : Nat} (m0 : 0 < m) (s0 : 0 ≤ s) (s1 : s < m) (h : Rho (stp t p m) s j c) (hk : k < j + c) : stV t p m s (itr (stp t p m) k s) = .int k := by
  obtain ⟨_, _, e⟩ := rho_rnd m0 s0 s1 h
  unfold stV
  rw [e]
  have hm : itr (stp t p m) k s ∈ orb (stp t p m) (j + c) s := orb_mem.mpr ⟨k, hk, rfl⟩
  show (if itr (stp t p m) k s ∈ orb (stp t p m) (j + c) s then V.int (((orb (stp t p m) (j + c) s).idxOf (itr (stp t p m) k s) : Nat) : Int) else .non) = _
  rw [if_pos hm]
  obtain ⟨h1, h2⟩ := orb_idx hm
  rw [h.one _ _ h1 hk h2]
theorem stV_out {t p m s x : Int} {j c : Nat} (m0 : 0 < m) (s0 : 0 ≤ s) (s1 : s < m) (h : Rho (stp t p m) s j c) (hx : ∀ k, k < j + c → itr (stp t p m) k s ≠ x) : stV t p m s x = .non := by
  obtain ⟨_, _, e⟩ := rho_rnd m0 s0 s1 h
  unfold stV
  rw [e]
  refine if_neg fun z => ?_
  obtain ⟨k, k1, k2⟩ := orb_mem.mp z
  exact hx k k1 k2
theorem itr_ahd {t p m : Int} {x : Int} (x0 : 0 ≤ x) (x1 : x < m) : ∀ n, itr (stp t p m) n x = ahd t p m n x
  | 0 => by
    unfold ahd
    show x = (t ^ 0 * x + p * 0) % m
    rw [Int.pow_zero, Int.one_mul, Int.mul_zero, Int.add_zero, Int.emod_eq_of_lt x0 x1]
  | n + 1 => by
    show stp t p m (itr (stp t p m) n x) = _
    rw [itr_ahd x0 x1 n, ahd_add t p m n 1]
    generalize ahd t p m n x = y
    unfold ahd stp
    have g1 : geo t 1 = 1 := by show (0 : Int) + t ^ 0 = 1; rw [Int.pow_zero]; rfl
    rw [g1, Int.pow_one, Int.mul_one]
/-! ### each number of rounds goes into its numbers -/
theorem cover {t p m : Int} (m0 : 0 < m) : ∀ l : List Int, Rng m l → ∃ ws, ws.Nodup ∧ Rng m ws ∧ Fcl (stp t p m) ws ∧ (∀ x ∈ l, x ∈ ws) ∧ ∀ L, L ∣ pcnt (stp t p m) ws L
  | [], _ => ⟨[], List.nodup_nil, (fun x hx => by cases hx), (fun x hx => by cases hx), (fun x hx => by cases hx), fun L => ⟨0, by show 0 = L * 0; omega⟩⟩
  | x :: l, h => by
    obtain ⟨ws, nd, rg, fc, cov, dv⟩ := cover (t := t) (p := p) m0 l fun y hy => h y (List.mem_cons_of_mem _ hy)
    have xr := h x List.mem_cons_self
    have W := wk_good (t := t) (p := p) m0 (m.toNat + 1) ws x nd rg xr (by omega)
    obtain ⟨n, hn, ew⟩ := wk_form (stp t p m) (m.toNat + 1) ws x
    rw [ew] at W
    obtain ⟨nd2, rg2, hy⟩ := W
    have nd2' : (ws ++ orb (stp t p m) n x).Nodup := nd2
    have hy' : itr (stp t p m) n x ∈ ws ++ orb (stp t p m) n x := hy
    refine ⟨ws ++ orb (stp t p m) n x, nd2, rg2, fcl_walk fc hy', fun y hym => ?_, fun L => ?_⟩
    · rcases List.mem_cons.mp hym with e | e
      · rw [e]
        cases n with
        | zero => exact hy'
        | succ n => exact List.mem_append_right _ (orb_mem.mpr ⟨0, by omega, rfl⟩)
      · exact List.mem_append_left _ (cov y e)
    · rcases List.mem_append.mp hy' with c | c
      · rw [pcnt_old nd2' fc c L]
        exact dv L
      · obtain ⟨i, hi, e⟩ := orb_mem.mp c
        rw [pcnt_new nd2' hi e.symm L]
        refine Nat.dvd_add (dv L) ?_
        by_cases z : L = n - i
        · rw [if_pos z, z]
          exact Nat.dvd_refl _
        · rw [if_neg z]
          exact Nat.dvd_zero _
theorem nper_dvd {t p m : Int} (m0 : 0 < m) (L : Nat) : L ∣ Nper (stp t p m) m L := by
  obtain ⟨ws, nd, rg, fc, cov, dv⟩ := cover (t := t) (p := p) m0 (alls m) fun x hx => alls_mem.mp hx
  rw [← nper_of nd rg (fun x x0 x1 _ => cov x (alls_mem.mpr ⟨x0, x1⟩)) L]
  exact dv L
/-! ### all numbers of rounds -/
open Classical in
noncomputable def Pall (f : Int → Int) (m : Int) : Nat := (alls m).countP fun x => decide (∃ L, Per f L x)
open Classical in
theorem pcnt_sum {f : Int → Int} {m : Int} : ∀ {zs : List (Int × Int)}, zs.Pairwise (fun y z => y.1 < z.1) → (∀ z ∈ zs, 0 ≤ z.1) → (zs.map fun z => ((Nper f m z.1.toNat : Nat) : Int)).sum = (((alls m).countP fun x => decide (∃ z ∈ zs, Per f z.1.toNat x) : Nat) : Int)
  | [], _, _ => by
    rw [List.countP_eq_zero.mpr]
    · rfl
    · intro x _
      simp
  | z :: zs, up, h0 => by
    rw [List.pairwise_cons] at up
    have ih := pcnt_sum (f := f) (m := m) up.2 fun y hy => h0 y (List.mem_cons_of_mem _ hy)
    rw [List.map_cons, List.sum_cons, ih]
    unfold Nper pcnt
    generalize alls m = l
    induction l with
    | nil => rfl
    | cons x l il =>
      rw [List.countP_cons, List.countP_cons, List.countP_cons]
      have e : (if decide (∃ y, y ∈ z :: zs ∧ Per f y.1.toNat x) = true then 1 else 0) = (if decide (Per f z.1.toNat x) = true then 1 else 0) + (if decide (∃ y, y ∈ zs ∧ Per f y.1.toNat x) = true then 1 else 0 : Nat) := by
        by_cases a : Per f z.1.toNat x
        · have b : ¬ ∃ y, y ∈ zs ∧ Per f y.1.toNat x := fun ⟨y, hy, hp⟩ => by
            have := per_uniq a hp
            have := up.1 y hy
            have := h0 z List.mem_cons_self
            have := h0 y (List.mem_cons_of_mem _ hy)
            omega
          have i1 : (if decide (Per f z.1.toNat x) = true then 1 else 0 : Nat) = 1 := if_pos (decide_eq_true a)
          have i2 : (if decide (∃ y, y ∈ zs ∧ Per f y.1.toNat x) = true then 1 else 0 : Nat) = 0 := if_neg fun k => b (of_decide_eq_true k)
          have i3 : (if decide (∃ y, y ∈ z :: zs ∧ Per f y.1.toNat x) = true then 1 else 0 : Nat) = 1 := if_pos (decide_eq_true ⟨z, List.mem_cons_self, a⟩)
          rw [i1, i2, i3]
        · have i1 : (if decide (Per f z.1.toNat x) = true then 1 else 0 : Nat) = 0 := if_neg fun k => a (of_decide_eq_true k)
          by_cases b : ∃ y, y ∈ zs ∧ Per f y.1.toNat x
          · have i2 : (if decide (∃ y, y ∈ zs ∧ Per f y.1.toNat x) = true then 1 else 0 : Nat) = 1 := if_pos (decide_eq_true b)
            have i3 : (if decide (∃ y, y ∈ z :: zs ∧ Per f y.1.toNat x) = true then 1 else 0 : Nat) = 1 := by
              obtain ⟨y, hy, hp⟩ := b
              exact if_pos (decide_eq_true ⟨y, List.mem_cons_of_mem _ hy, hp⟩)
            rw [i1, i2, i3]
          · have i2 : (if decide (∃ y, y ∈ zs ∧ Per f y.1.toNat x) = true then 1 else 0 : Nat) = 0 := if_neg fun k => b (of_decide_eq_true k)
            have i3 : (if decide (∃ y, y ∈ z :: zs ∧ Per f y.1.toNat x) = true then 1 else 0 : Nat) = 0 := if_neg fun k => by
              obtain ⟨y, hy, hp⟩ := of_decide_eq_true k
              rcases List.mem_cons.mp hy with e | e
              · rw [e] at hp
                exact a hp
              · exact b ⟨y, e, hp⟩
            rw [i1, i2, i3]
      rw [e]
      omega
open Classical in
theorem Rds.sum {t p m : Int} {zs : List (Int × Int)} (m0 : 0 < m) (h : Rds (stp t p m) m zs) : (zs.map fun z => z.1 * z.2).sum = ((Pall (stp t p m) m : Nat) : Int) := by
  have key : ∀ z ∈ zs, 0 ≤ z.1 ∧ z.1 * z.2 = ((Nper (stp t p m) m z.1.toNat : Nat) : Int) := fun z hz => by
    obtain ⟨n, e1, e2, e3⟩ := (h.mem z.1 z.2).mp hz
    rw [e1, e3]
    refine ⟨by omega, ?_⟩
    unfold Crnd
    rw [show ((n : Int)).toNat = n by omega, ← Int.natCast_mul, Nat.mul_div_cancel' (nper_dvd m0 n)]
  rw [List.map_congr_left (fun z hz => (key z hz).2), pcnt_sum h.up fun z hz => (key z hz).1]
  unfold Pall
  refine congrArg Int.ofNat (List.countP_congr fun x hx => ?_)
  simp only [decide_eq_true_eq]
  constructor
  · rintro ⟨z, hz, hp⟩
    exact ⟨_, hp⟩
  · rintro ⟨L, hp⟩
    refine ⟨((L : Int), Crnd (stp t p m) m L), (h.mem _ _).mpr ⟨L, rfl, pcnt_pos.mpr ⟨x, hx, hp⟩, rfl⟩, ?_⟩
    rw [show ((L : Int)).toNat = L by omega]
    exact hp
/-- what m steps lead to is what comes again -/
theorem far_per {t p m x : Int} (m0 : 0 < m) : (0 ≤ x ∧ x < m ∧ ∃ L, Per (stp t p m) L x) ↔ ∃ y, 0 ≤ y ∧ y < m ∧ itr (stp t p m) m.toNat y = x := by
  constructor
  · rintro ⟨x0, x1, L, h⟩
    refine ⟨itr (stp t p m) (L * m.toNat - m.toNat) x, (itr_rng m0 ⟨x0, x1⟩ _).1, (itr_rng m0 ⟨x0, x1⟩ _).2, ?_⟩
    have le : m.toNat ≤ L * m.toNat := Nat.le_mul_of_pos_left _ h.1
    rw [← itr_add, show m.toNat + (L * m.toNat - m.toNat) = L * m.toNat by omega]
    exact itr_fix h.2.1 _
  · rintro ⟨y, y0, y1, rfl⟩
    have r := itr_rng (t := t) (p := p) m0 ⟨y0, y1⟩ m.toNat
    obtain ⟨j, c, h, hl, _⟩ := rnd_rho (t := t) (p := p) m0 y0 y1
    exact ⟨r.1, r.2, c, h.per (by omega)⟩
open Classical in
theorem pall_len {t p m : Int} (m0 : 0 < m) {ks : List Int} (nd : ks.Nodup) (h : ∀ k, k ∈ ks ↔ ∃ y, 0 ≤ y ∧ y < m ∧ itr (stp t p m) m.toNat y = k) : ks.length = Pall (stp t p m) m := by
  unfold Pall
  rw [List.countP_eq_length_filter]
  refine List.Perm.length_eq ((List.perm_ext_iff_of_nodup nd ((alls_nodup m).filter _)).mpr fun x => ?_)
  rw [h x, ← far_per m0, List.mem_filter, alls_mem]
  simp only [decide_eq_true_eq]
  exact ⟨fun z => ⟨⟨z.1, z.2.1⟩, z.2.2⟩, fun z => ⟨z.1.1, z.1.2, z.2⟩⟩
/-! ### one round of all -/
theorem full_per {t p m : Int} (m0 : 0 < m) : Full t p m ↔ Per (stp t p m) m.toNat 0 := by
  have e := fun n => itr_ahd (t := t) (p := p) (m := m) (x := 0) (Int.le_refl 0) m0 n
  unfold Full Per
  constructor
  · rintro ⟨h1, h2⟩
    refine ⟨by omega, by rw [e, ahd_zero]; exact h2, fun j j1 j0 => ?_⟩
    rw [e, ahd_zero]
    exact h1 j j0 (by omega)
  · rintro ⟨h0, h1, h2⟩
    rw [e, ahd_zero] at h1
    refine ⟨fun n n0 n1 => ?_, h1⟩
    have := h2 n (by omega) n0
    rw [e, ahd_zero] at this
    exact this
theorem per_all {t p m x : Int} (m0 : 0 < m) (x0 : 0 ≤ x) (x1 : x < m) (h : Per (stp t p m) m.toNat x) {y : Int} (y0 : 0 ≤ y) (y1 : y < m) : Per (stp t p m) m.toNat y := by
  have r := rho_of_per h
  have nd : (orb (stp t p m) m.toNat x).Nodup := by
    have := r.nd
    rw [Nat.zero_add, List.nil_append] at this
    exact this
  have hm : y ∈ orb (stp t p m) m.toNat x := sub_eq nd (k := alls m) (fun z hz => by
    obtain ⟨i, _, rfl⟩ := orb_mem.mp hz
    exact alls_mem.mpr (itr_rng m0 ⟨x0, x1⟩ i)) (by rw [orb_len, alls_len]) (alls_mem.mpr ⟨y0, y1⟩)
  obtain ⟨i, _, rfl⟩ := orb_mem.mp hm
  exact r.per (Nat.zero_le i)
theorem one_rds {t p m : Int} {zs : List (Int × Int)} (m0 : 0 < m) (h : Rds (stp t p m) m zs) : ClsR t p m ↔ zs = [(m, 1)] := by
  rw [← full_iff m0, full_per m0]
  constructor
  · intro hp
    have all : ∀ y, 0 ≤ y → y < m → Per (stp t p m) m.toNat y := fun y y0 y1 => per_all m0 (Int.le_refl 0) m0 hp y0 y1
    have e : ∀ L, Nper (stp t p m) m L = if L = m.toNat then m.toNat else 0 := fun L => by
      rw [nper_g (fun _ => m.toNat) (fun x hx => all x (alls_mem.mp hx).1 (alls_mem.mp hx).2) L]
      by_cases c : L = m.toNat
      · rw [if_pos c, List.countP_eq_length.mpr (fun x _ => decide_eq_true c.symm), alls_len]
      · rw [if_neg c, List.countP_eq_zero]
        intro x _
        simp only [decide_eq_true_eq]
        exact fun z => c z.symm
    have em : ((m.toNat : Nat) : Int) = m := by omega
    refine h.uniq ⟨by simp, fun L c => ?_⟩
    have ec : Crnd (stp t p m) m m.toNat = 1 := by
      unfold Crnd
      rw [e, if_pos rfl, Nat.div_self (by omega)]
      rfl
    constructor
    · intro hz
      obtain ⟨rfl, rfl⟩ := Prod.mk.inj (List.mem_singleton.mp hz)
      exact ⟨L.toNat, em.symm, by rw [e, if_pos rfl]; omega, ec.symm⟩
    · rintro ⟨n, rfl, hn, rfl⟩
      rw [e] at hn
      by_cases c : n = m.toNat
      · rw [c, ec, em]
        exact List.mem_singleton.mpr rfl
      · rw [if_neg c] at hn
        omega
  · rintro rfl
    obtain ⟨n, e1, e2, _⟩ := (h.mem m 1).mp (List.mem_singleton.mpr rfl)
    obtain ⟨x, hx, hp⟩ := pcnt_pos.mp e2
    obtain ⟨x0, x1⟩ := alls_mem.mp hx
    rw [show n = m.toNat by omega] at hp
    exact per_all m0 x0 x1 hp (Int.le_refl 0) m0
theorem rds_len {t p m : Int} {zs : List (Int × Int)} (h : Rds (stp t p m) m zs) {c : Nat} {x : Int} (x0 : 0 ≤ x) (x1 : x < m) (hp : Per (stp t p m) c x) : (c : Int) ∈ zs.map (·.1) :=
  List.mem_map.mpr ⟨_, (h.mem c _).mpr ⟨c, rfl, pcnt_pos.mpr ⟨x, alls_mem.mpr ⟨x0, x1⟩, hp⟩, rfl⟩, rfl⟩
/-! ### pairs that are alike -/
theorem eqv_pairs : ∀ {zs ys : List (Int × Int)}, PyData.eqvAll (zs.map fun z => .tuple [.int z.1, .int z.2]) (ys.map fun z => .tuple [.int z.1, .int z.2]) = true → zs = ys
  | [], [], _ => rfl
  | [], y :: ys, h => by simp [PyData.eqvAll] at h
  | z :: zs, [], h => by simp [PyData.eqvAll] at h
  | z :: zs, y :: ys, h => by
    simp [PyData.eqvAll, PyData.eqv] at h
    have e2 : zs = ys := eqv_pairs h.2
    rw [e2]
    refine congrArg (· :: ys) (Prod.ext ?_ ?_)
    · exact h.1.1
    · exact h.1.2
theorem eqv_dp {zs ys : List (Int × Int)} : PyData.eqv (dPairs zs) (dPairs ys) = true ↔ zs = ys := by
  constructor
  · intro h
    unfold dPairs at h
    simp only [PyData.eqv] at h
    exact eqv_pairs h
  · rintro rfl
    exact eqv_self (shp_pairs _)
end Tw

/-! len(set), defs of four arguments, pairs in comprehensions; promises of law 10. -/
namespace Tw
open PySem PySem.Spec PyProof.Rows L2
/-- len(a set of ints) -/
def rLenSet (w : World) : List V → Hp → VK → Prop := fun vs H Q => ∃ (a : Addr) (S : Int → Bool) (n : Nat), vs = [V.ref a] ∧ H a = some (SetO w a S n) ∧ ∀ ks : List Int, ks.Nodup → (∀ k : Int, k ∈ ks ↔ S k = true) → Q (.int ks.length) H
theorem cr_lenSet {X : Cx} : CallR X (.builtin "len") (rLenSet X.w) := by
  intro pins s σ H vs us Q I r h
  obtain ⟨a, S, n, rfl, ha, q⟩ := h
  obtain ⟨o, es, ep, t, ho, hex, hd, g, nd, hm, hb, hf, hn, hr, hl⟩ := setO_get I ha
  rw [Vals.ref1 r]
  have lt : es.size < 4096 := hb
  have e : (es.toList.map keyOf).length = es.size := by rw [List.length_map, Array.length_toList]
  refine call_len_set ho hex hd hf (by omega) ⟨.int es.size, H, I.tok _, ⟨_, rfl⟩, ?_⟩
  rw [← e]
  exact q _ nd fun k => (hm k).symm
section
variable {P : Program} {w : World} {K : PySem.W.Frag} {mg : Str → Option Value} {base : Heap} {x : Str} {st : Stmt} {N : List Str} {k : Nat}
theorem Top.ok4 {a b c d : Str} {p : V → V → V → V → Hp → VK → XK → Prop} (D : Top K mg x st [a, b, c, d]) (S : FnScope N [a, b, c, d] (defScope st))
    (hbody : ∀ (f : Addr) (cdv : Value) (A : Around) (outer : List Env) (s : Shared) (H : Hp) (v1 v2 v3 v4 : V) (Q : VK) (E : XK), Room k (A.deeper (envOfC x (defScope st) s.heap.objs.size f cdv)) → p v1 v2 v3 v4 H Q E →
      ∃ t, PSs (cxOf CX0 P w K mg base N x (defScope st) f cdv A outer s H E).nox (defBody st) t ∧ t { nx := fun _ H' => Q .non H', rt := Q } (start N [v1, v2, v3, v4]) H) : Has P w K mg base CX0 (k + 1) x [a, b, c, d] (sp4 p) :=
  D.ok S (fun vs H Q E h => by obtain ⟨_, _, _, _, rfl, _⟩ := h; rfl) (fun f cdv A outer s H vs Q E hr h => by obtain ⟨v1, v2, v3, v4, rfl, h⟩ := h; exact hbody f cdv A outer s H v1 v2 v3 v4 Q E hr h)
end
def pStart10 (K : PySem.W.Frag) : V → V → V → V → Hp → VK → XK → Prop := fun a b c e H Q _ => ∃ (d : Addr) (n : Nat) (r : Addr) (t p m s : Int) (q : Addr) (ps : List (Addr × (Int × Int))), a = .ref d ∧ b = .ref r ∧ c = .int s ∧ e = .ref q ∧ Deck H d n ∧ n + 2 ≤ 100000000 ∧ H r = some (.tup [.int t, .int p, .int m]) ∧ Rule t p m ∧ m ≤ 2000 ∧ 0 ≤ s ∧ s < m ∧
  TupP H q ps ∧ Rds (stp t p m) m (ps.map (·.2)) ∧ ∀ H', But d H H' → Deck H' d (n + 2) → Q (.bl true) H'
end Tw
namespace Tw
open PySem PySem.Spec PyProof.Rows L2
theorem per_le {t p m x : Int} {L : Nat} (m0 : 0 < m) (x0 : 0 ≤ x) (x1 : x < m) (h : Per (stp t p m) L x) : L ≤ m.toNat := by
  have nd := (rho_of_per h).nd
  rw [Nat.zero_add, List.nil_append] at nd
  have := int_len nd fun z hz => by
    obtain ⟨i, _, rfl⟩ := orb_mem.mp hz
    exact itr_rng m0 ⟨x0, x1⟩ i
  rw [orb_len] at this
  exact this
theorem rds_short {t p m : Int} {zs : List (Int × Int)} (m0 : 0 < m) (h : Rds (stp t p m) m zs) : zs.length ≤ (m + 1).toNat := by
  have nd : (zs.map (·.1)).Nodup := by
    refine up_nodup ?_
    rw [List.pairwise_map]
    exact h.up
  have := int_len (m := m + 1) nd fun L hL => by
    obtain ⟨z, hz, rfl⟩ := List.mem_map.mp hL
    obtain ⟨n, e1, e2, _⟩ := (h.mem z.1 z.2).mp hz
    obtain ⟨x, hx, hp⟩ := pcnt_pos.mp e2
    obtain ⟨x0, x1⟩ := alls_mem.mp hx
    have := per_le m0 x0 x1 hp
    rw [e1]
    omega
  rw [List.length_map] at this
  exact this
end Tw
namespace Tw
open PySem PySem.Spec PyProof.Rows L2
theorem TupP.but {H H' : Hp} {q d : Addr} {n : Nat} {ps : List (Addr × (Int × Int))} (h : TupP H q ps) (D : Deck H d n) (b : But d H H') : TupP H' q ps :=
  ⟨b _ _ (D.ne_tup h.1) h.1, fun z hz => b _ _ (D.ne_tup (h.2 z hz)) (h.2 z hz)⟩
theorem rds_bd {t p m : Int} {zs : List (Int × Int)} (m0 : 0 < m) (h : Rds (stp t p m) m zs) {z : Int × Int} (hz : z ∈ zs) : (0 ≤ z.1 ∧ z.1 ≤ m) ∧ 0 ≤ z.2 ∧ z.2 ≤ m := by
  obtain ⟨n, e1, e2, e3⟩ := (h.mem z.1 z.2).mp hz
  obtain ⟨x, hx, hp⟩ := pcnt_pos.mp e2
  obtain ⟨x0, x1⟩ := alls_mem.mp hx
  have l1 := per_le m0 x0 x1 hp
  have l2 : Nper (stp t p m) m n ≤ (alls m).length := List.countP_le_length
  have l3 := Nat.div_le_self (Nper (stp t p m) m n) n
  rw [alls_len] at l2
  rw [e1, e3]
  unfold Crnd
  generalize Nper (stp t p m) m n / n = qq at l3 ⊢
  omega
theorem one_bool {t p m : Int} {zs : List (Int × Int)} {b : Bool} (m0 : 0 < m) (h : Rds (stp t p m) m zs) (hb : b = true ↔ ClsR t p m) : b = PyData.eqv (dPairs zs) (dPairs [(m, 1)]) :=
  Bool.eq_iff_iff.mpr (hb.trans ((one_rds m0 h).trans eqv_dp.symm))
end Tw

/-! What stands before a number. -/
namespace Tw
open PySem PySem.Spec PyProof.Rows L2
/-- the least number whose next one is n -/
def Bef (t p m n x : Int) : Prop := 0 ≤ x ∧ x < m / (Int.gcd t m : Nat) ∧ (t * x + p) % m = n
theorem gcd_pos {t m : Int} (m0 : 0 < m) : 0 < (Int.gcd t m : Int) := by
  have : Int.gcd t m ≠ 0 := fun z => by
    have := (Int.gcd_eq_zero_iff.mp z).2
    omega
  omega
theorem gcd_parts {t m : Int} (m0 : 0 < m) : t = (Int.gcd t m : Nat) * (t / (Int.gcd t m : Nat)) ∧ m = (Int.gcd t m : Nat) * (m / (Int.gcd t m : Nat)) ∧ 0 < m / (Int.gcd t m : Nat) ∧ Int.gcd (t / (Int.gcd t m : Nat)) (m / (Int.gcd t m : Nat)) = 1 := by
  have g0 := gcd_pos (t := t) m0
  have d1 : ((Int.gcd t m : Nat) : Int) ∣ t := Int.gcd_dvd_left ..
  have d2 : ((Int.gcd t m : Nat) : Int) ∣ m := Int.gcd_dvd_right ..
  have e1 := Int.mul_ediv_cancel' d1
  have e2 := Int.mul_ediv_cancel' d2
  refine ⟨e1.symm, e2.symm, Int.ediv_pos_of_pos_of_dvd m0 (by omega) d2, ?_⟩
  have := Int.gcd_ediv_gcd_ediv_gcd (i := t) (j := m) (by omega)
  exact this
theorem bef_uniq {t p m n x y : Int} (m0 : 0 < m) (h : Bef t p m n x) (k : Bef t p m n y) : x = y := by
  obtain ⟨x0, x1, xe⟩ := h
  obtain ⟨y0, y1, ye⟩ := k
  obtain ⟨p1, p2, p3, p4⟩ := gcd_parts (t := t) m0
  have g0 := gcd_pos (t := t) m0
  generalize eg : ((Int.gcd t m : Nat) : Int) = g at *
  generalize et : t / g = t' at *
  generalize em : m / g = m' at *
  have e := Int.dvd_of_emod_eq_zero (Int.emod_eq_emod_iff_emod_sub_eq_zero.mp (xe.trans ye.symm))
  have e2 : g * m' ∣ g * (t' * (x - y)) := by
    rw [← p2, show g * (t' * (x - y)) = t * x + p - (t * y + p) by rw [p1]; grind]
    exact e
  have e3 : m' ∣ t' * (x - y) := Int.dvd_of_mul_dvd_mul_left (by omega) e2
  have e4 : m'.natAbs ∣ (x - y).natAbs := by
    have h1 := Int.natAbs_dvd_natAbs.mpr e3
    rw [Int.natAbs_mul] at h1
    exact Nat.Coprime.dvd_of_dvd_mul_left (show Nat.Coprime m'.natAbs t'.natAbs from Nat.Coprime.symm p4) h1
  have e5 : (x - y).natAbs = 0 := Nat.eq_zero_of_dvd_of_lt e4 (by omega)
  omega
/-- made by the inverse -/
theorem bef_of {t p m n v : Int} (m0 : 0 < m) (n0 : 0 ≤ n) (n1 : n < m) (hd : (n - p) % (Int.gcd t m : Nat) = 0) (hv : (t / (Int.gcd t m : Nat)) * v % (m / (Int.gcd t m : Nat)) = 1 % (m / (Int.gcd t m : Nat))) :
    Bef t p m n ((n - p) / (Int.gcd t m : Nat) * v % (m / (Int.gcd t m : Nat))) := by
  obtain ⟨p1, p2, p3, p4⟩ := gcd_parts (t := t) m0
  have g0 := gcd_pos (t := t) m0
  have c1 := Int.mul_ediv_cancel' (Int.dvd_of_emod_eq_zero hd)
  unfold Bef
  generalize ((Int.gcd t m : Nat) : Int) = g at *
  generalize t / g = t' at *
  generalize m / g = m' at *
  generalize (n - p) / g = c at *
  have xr := mod_bd (c * v) p3
  refine ⟨xr.1, xr.2, ?_⟩
  obtain ⟨e, he⟩ := Int.dvd_of_emod_eq_zero (Int.emod_eq_emod_iff_emod_sub_eq_zero.mp hv)
  have a1 := Int.mul_ediv_add_emod (c * v) m'
  generalize c * v / m' = d1 at *
  generalize c * v % m' = x at *
  have e1 : t * x + p = n + m * (c * e - t' * d1) := by
    have h1 : t' * v = 1 + m' * e := by omega
    have h2 : x = c * v - m' * d1 := by omega
    rw [h2, p1, p2]
    have h3 : g * t' * (c * v - m' * d1) + p = g * c * (t' * v) - g * t' * m' * d1 + p := by grind
    rw [h3, h1]
    have h4 : g * c * (1 + m' * e) - g * t' * m' * d1 + p = g * c + p + g * m' * (c * e - t' * d1) := by grind
    rw [h4, c1]
    omega
  rw [e1, Int.add_mul_emod_self_left]
  exact Int.emod_eq_of_lt n0 n1
theorem no_bef {t p m n x : Int} (m0 : 0 < m) (hd : (n - p) % (Int.gcd t m : Nat) ≠ 0) : (t * x + p - n) % m ≠ 0 := by
  intro h
  apply hd
  obtain ⟨c, hc⟩ := Int.dvd_of_emod_eq_zero h
  obtain ⟨p1, p2, p3, p4⟩ := gcd_parts (t := t) m0
  refine Int.emod_eq_zero_of_dvd ⟨t / (Int.gcd t m : Nat) * x - m / (Int.gcd t m : Nat) * c, ?_⟩
  generalize ((Int.gcd t m : Nat) : Int) = g at *
  generalize t / g = t' at *
  generalize m / g = m' at *
  subst p1
  grind
/-- which numbers lead to n -/
theorem bef_iff {t p m n x y : Int} (m0 : 0 < m) (n0 : 0 ≤ n) (n1 : n < m) (hx : Bef t p m n x) : (t * y + p - n) % m = 0 ↔ y % (m / (Int.gcd t m : Nat)) = x := by
  obtain ⟨x0, x1, xe⟩ := hx
  obtain ⟨p1, p2, p3, p4⟩ := gcd_parts (t := t) m0
  have g0 := gcd_pos (t := t) m0
  generalize eg : ((Int.gcd t m : Nat) : Int) = g at *
  generalize et : t / g = t' at *
  generalize em : m / g = m' at *
  have xe2 : m ∣ t * x + p - n := Int.dvd_of_emod_eq_zero (by
    rw [← Int.emod_eq_emod_iff_emod_sub_eq_zero, xe]
    exact (Int.emod_eq_of_lt n0 n1).symm)
  constructor
  · intro h
    have e := Int.dvd_sub (Int.dvd_of_emod_eq_zero h) xe2
    have e2 : g * m' ∣ g * (t' * (y - x)) := by
      rw [← p2, show g * (t' * (y - x)) = t * y + p - n - (t * x + p - n) by rw [p1]; grind]
      exact e
    have e3 : m' ∣ t' * (y - x) := Int.dvd_of_mul_dvd_mul_left (by omega) e2
    have e4 : m' ∣ y - x := by
      refine Int.natAbs_dvd_natAbs.mp ?_
      have h1 := Int.natAbs_dvd_natAbs.mpr e3
      rw [Int.natAbs_mul] at h1
      exact Nat.Coprime.dvd_of_dvd_mul_left (show Nat.Coprime m'.natAbs t'.natAbs from Nat.Coprime.symm p4) h1
    have e5 : y % m' = x % m' := Int.emod_eq_emod_iff_emod_sub_eq_zero.mpr (Int.emod_eq_zero_of_dvd e4)
    rw [e5]
    exact Int.emod_eq_of_lt x0 x1
  · intro h
    have a1 := Int.mul_ediv_add_emod y m'
    rw [h] at a1
    obtain ⟨c, hc⟩ := xe2
    refine Int.emod_eq_zero_of_dvd ⟨c + t' * (y / m'), ?_⟩
    generalize y / m' = d at *
    subst a1
    have : t * (m' * d + x) + p - n = (t * x + p - n) + t * m' * d := by grind
    rw [this, hc]
    conv => lhs; rhs; rw [p1]
    have h2 : g * t' * m' * d = (g * m') * (t' * d) := by grind
    rw [h2, ← p2]
    grind
/-- the numbers of a range with a given rest -/
theorem filter_eq_range (x : Nat) : ∀ m : Nat, (List.range m).filter (fun i => decide (i = x)) = if x < m then [x] else []
  | 0 => by simp
  | m + 1 => by
    rw [List.range_succ, List.filter_append, filter_eq_range x m]
    by_cases h : x < m
    · rw [if_pos h, if_pos (by omega)]
      simp
      omega
    · rw [if_neg h]
      by_cases h2 : m = x
      · subst h2
        simp
      · rw [if_neg (by omega)]
        simp [h2]
theorem filter_rest {m x : Nat} (hx : x < m) : ∀ g : Nat, (List.range (g * m)).filter (fun i => decide (i % m = x)) = (List.range g).map fun k => k * m + x
  | 0 => by simp
  | g + 1 => by
    rw [Nat.add_mul, Nat.one_mul, List.range_add, List.filter_append, filter_rest hx g, List.range_succ, List.map_append]
    congr 1
    rw [List.filter_map]
    have : ((fun i => decide (i % m = x)) ∘ fun j => g * m + j) = fun j => decide (j % m = x) := by
      funext j
      simp [Nat.mul_add_mod_self_right]
    rw [this]
    have h2 : (List.range m).filter (fun j => decide (j % m = x)) = (List.range m).filter (fun j => decide (j = x)) := by
      apply List.filter_congr
      intro j hj
      rw [Nat.mod_eq_of_lt (List.mem_range.mp hj)]
    rw [h2, filter_eq_range, if_pos hx]
    rfl
def pBefore (K : PySem.W.Frag) (CN : Addr) : V → V → Hp → VK → XK → Prop := fun a b H Q E => ∃ (r : Addr) (t p m n : Int), a = .ref r ∧ b = .int n ∧ SqT K H r [.int t, .int p, .int m] ∧ Rule t p m ∧ (¬ (0 ≤ n ∧ n < m) → Bad CN n H E) ∧
  (0 ≤ n ∧ n < m → (n - p) % (Int.gcd t m : Nat) ≠ 0 → ∀ H' q, Same H H' → H q = none → H' q = some (.tup [.int 0, .non]) → Q (.ref q) H') ∧
  (0 ≤ n ∧ n < m → (n - p) % (Int.gcd t m : Nat) = 0 → ∀ H' q x, Same H H' → H q = none → Bef t p m n x → H' q = some (.tup [.int (Int.gcd t m : Nat), .int x]) → Q (.ref q) H')
end Tw

/-! Seeds: what is drawn of them; a bound, a rule, a row. -/
namespace Tw
open PySem PySem.Spec PyProof.Rows L2

/-- a seed: what is left of a great cell, whether it is one, how many were drawn, the mixed cell -/
def Seed (H : Hp) (d : Addr) (n : Nat) : Prop := ∃ r f k c : Int, H d = some (.lst [.int r, .int f, .int k, .int c]) ∧ 0 ≤ r ∧ 0 ≤ k ∧ k ≤ (n : Int) ∧ 0 ≤ c ∧ c < 2000000000
theorem Seed.mono {H : Hp} {d : Addr} {n m : Nat} (h : Seed H d n) (l : n ≤ m) : Seed H d m := by
  obtain ⟨r, f, k, c, a1, a2, a3, a4, a5⟩ := h
  exact ⟨r, f, k, c, a1, a2, a3, by omega, a5⟩
theorem Seed.same {H H' : Hp} {d : Addr} {n : Nat} (h : Seed H d n) (s : Same H H') : Seed H' d n := by
  obtain ⟨r, f, k, c, a1, a2⟩ := h
  exact ⟨r, f, k, c, s _ _ a1, a2⟩
theorem Seed.ne {H : Hp} {d p : Addr} {n : Nat} (h : Seed H d n) (e : H p = none) : p ≠ d := by
  obtain ⟨r, f, k, c, a1, _⟩ := h
  intro z
  rw [z, a1] at e
  cases e
theorem Seed.ne_tup {H : Hp} {d p : Addr} {n : Nat} {xs : List V} (h : Seed H d n) (e : H p = some (.tup xs)) : p ≠ d := by
  obtain ⟨r, f, k, c, a1, _⟩ := h
  intro z
  rw [z, a1] at e
  cases e
theorem Seed.fresh {H H' : Hp} {d p : Addr} {n m : Nat} (h' : Seed H' d m) (b : But d H H') (e : H' p = none) : H p = none := b.free (h'.ne e) e
theorem Seed.nohd {H : Hp} {d : Addr} {n : Nat} (h : Seed H d n) : ∀ c, ¬ At H d c := fun c hc => by
  obtain ⟨r, f, k, cc, a1, _⟩ := h
  obtain ⟨_, e⟩ := hc
  rw [a1] at e
  cases e
/-- a list of ours beside the seed is changed -/
theorem Seed.mut {H : Hp} {d L : Addr} {n : Nat} {o : HO} (h : Seed H d n) (ne : L ≠ d) : Seed (upd H L o) d n := by
  obtain ⟨r, f, k, c, a1, a2⟩ := h
  exact ⟨r, f, k, c, by rw [upd_ne (Ne.symm ne)]; exact a1, a2⟩
/-- a new list at L, changed: the old heap stands -/
theorem but_new {H H' : Hp} {d L : Addr} {o : HO} (b : But d H H') (e : H L = none) : But d H (upd H' L o) := but_mut2 b e
def pFolded (K : PySem.W.Frag) : V → Hp → VK → XK → Prop := fun a H Q _ => ∃ (s : Addr) (xs : List Int), a = .ref s ∧ SqL K H s (xs.map V.int) ∧ xs.length ≤ 63 ∧ ∀ v : Int, Q (.int v) H
def pSeed : V → Hp → VK → XK → Prop := fun a H Q _ => ∃ c : Int, a = .int c ∧ ∀ H' d, Same H H' → H d = none → Seed H' d 0 → Q (.ref d) H'
/-- a draw below m -/
def pDrw (c : Nat) : V → V → Hp → VK → XK → Prop := fun a b H Q _ => ∃ (d : Addr) (n : Nat) (m : Int), a = .ref d ∧ b = .int m ∧ 0 < m ∧ m < 1000000000000000000000000000000000000000000 ∧ Seed H d n ∧ n + c ≤ 100000000 ∧
  ∀ (H' : Hp) (v : Int), But d H H' → Seed H' d (n + c) → 0 ≤ v → v < m → Q (.int v) H'
def pBnd : V → V → Hp → VK → XK → Prop := fun a b H Q _ => ∃ (d : Addr) (n : Nat) (k : Int), a = .ref d ∧ b = .int k ∧ 0 < k ∧ k ≤ 6 ∧ Seed H d n ∧ n + 3 ≤ 100000000 ∧
  ∀ (H' : Hp) (v : Int), But d H H' → Seed H' d (n + 3) → 1 ≤ v → v ≤ 1000000000000 → (k ≤ 3 → v ≤ 2000) → Q (.int v) H'
def pAnyRule : V → V → Hp → VK → XK → Prop := fun a b H Q _ => ∃ (d : Addr) (n : Nat) (m : Int), a = .ref d ∧ b = .int m ∧ 1 ≤ m ∧ m ≤ 1000000000000 ∧ Seed H d n ∧ n + 7 ≤ 100000000 ∧
  ∀ (H' : Hp) (r : Addr) (t p : Int), But d H H' → Seed H' d (n + 7) → H r = none → H' r = some (.tup [.int t, .int p, .int m]) → Rule t p m → Q (.ref r) H'
def pWalkF (K : PySem.W.Frag) : V → V → V → Hp → VK → XK → Prop := fun a b c H Q _ => ∃ (r : Addr) (t p m s n : Int), a = .ref r ∧ b = .int s ∧ c = .int n ∧ SqT K H r [.int t, .int p, .int m] ∧ Rule t p m ∧ 0 ≤ s ∧ s < m ∧ 1 ≤ n ∧ n ≤ 1000 ∧
  ∀ H' l, Same H H' → H l = none → H' l = some (.lst ((orb (stp t p m) n.toNat s).map V.int)) → Q (.ref l) H'
def pRowS : V → V → V → Hp → VK → XK → Prop := fun a b c H Q _ => ∃ (d : Addr) (n : Nat) (m z : Int), a = .ref d ∧ b = .int m ∧ c = .int z ∧ 1 ≤ m ∧ m ≤ 1000000000000 ∧ 6 ≤ z ∧ z ≤ 60 ∧ Seed H d n ∧ n + 1000 ≤ 100000000 ∧
  ∀ (H' : Hp) (r : Addr) (xs : List Int), But d H H' → Seed H' d (n + 1000) → H r = none → H' r = some (.tup (xs.map V.int)) → 2 ≤ xs.length → (xs.length : Int) ≤ z → Rng m xs → Q (.ref r) H'
/-- found is due, both whole -/
def pIsWh : V → V → Hp → VK → XK → Prop := fun a b H Q _ => ∃ x y : Int, a = .int x ∧ b = .int y ∧ Q (.bl (decide (x = y))) H
theorem orb_rng {t p m s : Int} (m0 : 0 < m) (h0 : 0 ≤ s) (h1 : s < m) (n : Nat) : Rng m (orb (stp t p m) n s) := fun x hx => by
  obtain ⟨i, _, rfl⟩ := List.mem_map.mp hx
  exact itr_rng m0 ⟨h0, h1⟩ i
/-- len in a comprehension -/
def rLenS (K : PySem.W.Frag) : List V → Hp → VK → Prop := fun xs H Q => ∃ (p : Addr) (ys : List V), xs = [V.ref p] ∧ (SqL K H p ys ∨ SqT K H p ys) ∧ Q (V.int ys.length) H
theorem call_lenS {X : Cx} : CallR X (.builtin "len") (rLenS X.K) := call_len_seq
theorem yesX {σ : L2.St} {H : Hp} {A B : Hp → Prop} (h : A H) : tYes σ H fun b H3 => if b = true then A H3 else B H3 := by
  show if true = true then A H else B H
  rw [if_pos rfl]
  exact h
theorem ixN_nat {n j : Nat} (h : j < n) : ixN n (j : Int) = some j := by
  unfold ixN
  rw [if_pos (by omega), if_pos (by omega)]
  simp
end Tw

/-! Slices of tuples; gaps; what divides all. -/
namespace Tw
open PySem PySem.Spec PyProof.Rows L2

theorem upd_swap {H : Hp} {a b : Addr} {o u : HO} (h : a ≠ b) : upd (upd H a o) b u = upd (upd H b u) a o := by
  funext c
  by_cases e1 : c = b
  · rw [e1, upd_same, upd_ne (Ne.symm h), upd_same]
  · by_cases e2 : c = a
    · rw [e2, upd_ne h, upd_same, upd_same]
    · rw [upd_ne e1, upd_ne e2, upd_ne e2, upd_ne e1]
theorem cut_all {xs : List V} {lo hi : Option Int} (h : HT.sIx xs.length 0 lo = 0 ∧ HT.sIx xs.length xs.length hi = xs.length) : cutV xs lo hi = xs := by
  unfold cutV
  rw [h.1, h.2]
  simp
theorem cut_drop (xs : List V) (n : Nat) : cutV xs (some (n : Int)) none = xs.drop n := by
  unfold cutV
  rw [HT.sIx_none, HT.sIx_nat]
  by_cases h : n ≤ xs.length
  · rw [Nat.min_eq_left h, List.take_of_length_le (by rw [List.length_drop]; omega)]
  · rw [Nat.min_eq_right (by omega), List.drop_of_length_le (Nat.le_refl _), List.drop_of_length_le (by omega), List.take_nil]
theorem cut_takeI (xs : List Int) (n : Nat) : cutV (xs.map V.int) none (some (n : Int)) = (xs.take n).map V.int := by
  rw [cut_take, List.map_take]
theorem cut_dropI (xs : List Int) (n : Nat) : cutV (xs.map V.int) (some (n : Int)) none = (xs.drop n).map V.int := by
  rw [cut_drop, List.map_drop]
/-- a slice of a tuple: the tuple itself, or a new one -/
def rSlX (K : PySem.W.Frag) : V → Option Int → Option Int → Hp → VK → Prop := fun x lo hi H Q => ∃ (a : Addr) (xs : List V), x = .ref a ∧ SqT K H a xs ∧ ∀ H' p, Same H H' → SqT K H' p (cutV xs lo hi) → Q (.ref p) H'
theorem sl_tupX {X : Cx} : SlR X (rSlX X.K) := by
  intro pins s σ H x v vl vu lo hi sl Q I rx hsl pl pu h
  obtain ⟨a, xs, rfl, hs, q⟩ := h
  refine sl_tupA pins s σ H _ v vl vu lo hi sl Q I rx hsl pl pu ⟨a, xs, rfl, hs, fun e => ?_, fun e p np => ?_⟩
  · refine q H a (fun _ _ z => z) ?_
    rw [cut_all e]
    exact hs
  · exact q _ p (same_new np) (SqT.of upd_same)
theorem But.tupS {K : PySem.W.Frag} {H H' : Hp} {d r : Addr} {n : Nat} {xs : List V} (b : But d H H') (D : Seed H d n) (h : SqT K H r xs) : SqT K H' r xs := by
  obtain ⟨rr, f, k, c, a1, _⟩ := D
  rcases h with (h | ⟨o, h⟩) | h
  · refine .inl (.inl (b _ _ (fun z => ?_) h))
    rw [z, a1] at h
    cases h
  · refine .inl (.inr ⟨o, b _ _ (fun z => ?_) h⟩)
    rw [z, a1] at h
    cases h
  · exact .inr h
/-! ### gaps -/
def gat (xs : List Int) (i : Nat) : Int := xs.getD (i + 1) 0 - xs.getD i 0
def gp (xs : List Int) : List Int := (List.range (xs.length - 1)).map (gat xs)
theorem gp_len (xs : List Int) : (gp xs).length = xs.length - 1 := by unfold gp; rw [List.length_map, List.length_range]
theorem gp_get {xs : List Int} {i : Nat} (h : i < xs.length - 1) : (gp xs)[i]? = some (gat xs i) := by
  unfold gp
  rw [List.getElem?_map, List.getElem?_range h]
  rfl
theorem get_D {xs : List Int} {i : Nat} {v : Int} (h : xs[i]? = some v) : xs.getD i 0 = v := by
  rw [List.getD_eq_getElem?_getD, h]
  rfl
theorem vget {xs : List Int} {i : Nat} {v : V} (h : (xs.map V.int)[i]? = some v) : v = .int (xs.getD i 0) ∧ i < xs.length := by
  rw [List.getElem?_map] at h
  cases e : xs[i]? with
  | none => rw [e] at h; cases h
  | some x =>
    rw [e] at h
    cases h
    exact ⟨by rw [get_D e], (List.getElem?_eq_some_iff.mp e).1⟩
theorem vgetd {xs : List Int} {i k : Nat} {v : V} (h : ((xs.drop k).map V.int)[i]? = some v) : v = .int (xs.getD (k + i) 0) ∧ k + i < xs.length := by
  rw [List.getElem?_map, List.getElem?_drop] at h
  cases e : xs[k + i]? with
  | none => rw [e] at h; cases h
  | some x =>
    rw [e] at h
    cases h
    exact ⟨by rw [get_D e], (List.getElem?_eq_some_iff.mp e).1⟩
theorem gp_D {xs : List Int} {i : Nat} (h : i < xs.length - 1) : (gp xs).getD i 0 = gat xs i := get_D (gp_get h)
def pGapsOf (K : PySem.W.Frag) : V → Hp → VK → XK → Prop := fun a H Q _ => ∃ (r : Addr) (xs : List Int), a = .ref r ∧ SqT K H r (xs.map V.int) ∧ xs.length ≤ 1000 ∧ ∀ H' l, Same H H' → H l = none → H' l = some (.lst ((gp xs).map V.int)) → Q (.ref l) H'
theorem getD_rng {m : Int} {xs : List Int} (m0 : 0 < m) (h : Rng m xs) (i : Nat) : 0 ≤ xs.getD i 0 ∧ xs.getD i 0 < m := by
  by_cases l : i < xs.length
  · rw [get_D (List.getElem?_eq_getElem l)]
    exact h _ (List.getElem_mem l)
  · rw [List.getD_eq_getElem?_getD, List.getElem?_eq_none (by omega)]
    exact ⟨Int.le_refl _, m0⟩
theorem gat_rng {m : Int} {xs : List Int} (m0 : 0 < m) (h : Rng m xs) (i : Nat) : -m < gat xs i ∧ gat xs i < m := by
  have a := getD_rng m0 h i
  have b := getD_rng m0 h (i + 1)
  unfold gat
  omega
/-! ### what divides all -/
def trm (xs : List Int) (i : Nat) : Int := gat xs i * gat xs (i + 2) - gat xs (i + 1) * gat xs (i + 1)
def dvA (xs : List Int) : Nat → Nat
  | 0 => 0
  | k + 1 => Nat.gcd (dvA xs k) (trm xs k).natAbs
theorem dvA_dvd (xs : List Int) (e : Nat) : ∀ k, e ∣ dvA xs k ↔ ∀ i, i < k → e ∣ (trm xs i).natAbs
  | 0 => ⟨fun _ i hi => absurd hi (Nat.not_lt_zero _), fun _ => Nat.dvd_zero e⟩
  | k + 1 => by
    show e ∣ Nat.gcd (dvA xs k) (trm xs k).natAbs ↔ _
    rw [Nat.dvd_gcd_iff, dvA_dvd xs e k]
    constructor
    · rintro ⟨a, b⟩ i hi
      by_cases e1 : i = k
      · rw [e1]; exact b
      · exact a i (by omega)
    · intro h
      exact ⟨fun i hi => h i (by omega), h k (by omega)⟩
/-- all of a list are divided by just what divides n -/
def Dv (ys : List Int) (n : Nat) : Prop := ∀ e : Nat, (∀ y ∈ ys, e ∣ y.natAbs) ↔ e ∣ n
theorem Dv.nil {n : Nat} (h : Dv [] n) : n = 0 := by
  have := (h 0).mp (fun y hy => by cases hy)
  exact Nat.eq_zero_of_zero_dvd this
theorem Dv.one {y : Int} {n : Nat} (h : Dv [y] n) : y.natAbs = n := by
  refine Nat.dvd_antisymm ?_ ?_
  · exact (h _).mp (fun z hz => by rw [List.mem_singleton.mp hz]; exact Nat.dvd_refl _)
  · exact (h n).mpr (Nat.dvd_refl _) y (List.mem_singleton.mpr rfl)
theorem Dv.pos {ys : List Int} {n : Nat} (h : Dv ys n) : Dv (ys.filter (fun y => decide (y > 0))) n ∨ ∃ y ∈ ys, y < 0 := by
  by_cases hy : ∃ y ∈ ys, y < 0
  · exact .inr hy
  · refine .inl fun e => ?_
    rw [← h e]
    constructor
    · intro q y m
      by_cases l : y > 0
      · exact q y (List.mem_filter.mpr ⟨m, by simp [l]⟩)
      · have : y = 0 := by
          have h1 : ¬ y < 0 := fun z => hy ⟨y, m, z⟩
          omega
        rw [this]
        exact Nat.dvd_zero e
    · intro q y m
      exact q y (List.mem_filter.mp m).1
theorem natAbs_mod_dvd {x l : Int} {e : Nat} (hl : e ∣ l.natAbs) : e ∣ (x % l).natAbs ↔ e ∣ x.natAbs := by
  rw [← Int.ofNat_dvd_left, ← Int.ofNat_dvd_left]
  rw [← Int.ofNat_dvd_left] at hl
  have hd : (e : Int) ∣ l * (x / l) := Int.dvd_trans hl (Int.dvd_mul_right _ _)
  have ex := Int.mul_ediv_add_emod x l
  constructor
  · intro h
    rw [← ex]
    exact Int.dvd_add hd h
  · intro h
    have : x % l = x - l * (x / l) := by omega
    rw [this]
    exact Int.dvd_sub h hd
theorem Dv.step {ys zs : List Int} {l : Int} {n : Nat} (h : Dv ys n) (hl : l ∈ ys) (hz : ∀ z, z ∈ zs ↔ z = l ∨ ∃ y ∈ ys, y % l > 0 ∧ z = y % l) (l0 : 0 < l) : Dv zs n := fun e => by
  rw [← h e]
  constructor
  · intro q y m
    have ql := q l ((hz l).mpr (.inl rfl))
    by_cases p : y % l > 0
    · exact (natAbs_mod_dvd ql).mp (q _ ((hz _).mpr (.inr ⟨y, m, p, rfl⟩)))
    · have z : y % l = 0 := by
        have := Int.emod_nonneg y (show l ≠ 0 by omega)
        omega
      refine (natAbs_mod_dvd ql).mp ?_
      rw [z]
      exact Nat.dvd_zero e
  · intro q z m
    rcases (hz z).mp m with rfl | ⟨y, my, p, rfl⟩
    · exact q _ hl
    · exact (natAbs_mod_dvd (q _ hl)).mpr (q _ my)
def pDivAll (K : PySem.W.Frag) : V → Hp → VK → XK → Prop := fun a H Q _ => ∃ (r : Addr) (xs : List Int), a = .ref r ∧ SqT K H r (xs.map V.int) ∧ xs.length ≤ 1000 ∧ Rng 1000000000000000 xs ∧ ∀ H', Same H H' → Q (.int (dvA xs (xs.length - 3) : Nat)) H'
end Tw
namespace Tw
open PySem PySem.Spec PyProof.Rows L2
theorem atD {xs : List Int} {z : Int} {n : Nat} (e : z = (n : Int)) (h : n < xs.length) : atI (xs.map V.int) z = some (.int (xs.getD n 0)) := by
  subst e
  refine atI_nat ?_
  rw [List.getElem?_map, List.getElem?_eq_getElem h, get_D (List.getElem?_eq_getElem h)]
  rfl
def ab (t : Int) : Int := if t < 0 then -t else t
theorem ab_nat (t : Int) : (ab t).natAbs = t.natAbs := by
  unfold ab
  split
  · rw [Int.natAbs_neg]
  · rfl
theorem ab_nonneg (t : Int) : 0 ≤ ab t := by
  unfold ab
  split <;> omega
theorem dv_all (xs : List Int) (k : Nat) : Dv ((List.range k).map fun i => ab (trm xs i)) (dvA xs k) := fun e => by
  rw [dvA_dvd]
  constructor
  · intro h i hi
    have := h _ (List.mem_map.mpr ⟨i, List.mem_range.mpr hi, rfl⟩)
    rw [ab_nat] at this
    exact this
  · intro h y hy
    obtain ⟨i, hi, rfl⟩ := List.mem_map.mp hy
    rw [ab_nat]
    exact h i (List.mem_range.mp hi)
theorem same_butNew {Hb Ha H' : Hp} {d : Addr} (s : Same Hb Ha) (e : Hb d = none) (b : But d Ha H') : Same Hb H' := fun c o h => b c o (ne_of_none h e) (s c o h)
def pDueA (K : PySem.W.Frag) : V → Hp → VK → XK → Prop := fun a H Q _ => ∃ (r : Addr) (xs : List Int), a = .ref r ∧ SqT K H r (xs.map V.int) ∧ xs.length ≤ 60 ∧ Rng 1000000000000000 xs ∧ ∀ H', Same H H' → Q (.int (dvA xs (xs.length - 3) : Nat)) H'
def pAnyRow (K : PySem.W.Frag) : V → Hp → VK → XK → Prop := fun a H Q _ => ∃ (d : Addr) (n : Nat), a = .ref d ∧ Seed H d n ∧ n + 2000 ≤ 100000000 ∧
  ∀ (H' : Hp) (r : Addr) (xs : List Int), But d H H' → Seed H' d (n + 2000) → SqT K H' r (xs.map V.int) → 2 ≤ xs.length → xs.length ≤ 60 → Rng 1000000000000000 xs → Q (.ref r) H'
theorem Rng.mono {m n : Int} {xs : List Int} (h : Rng m xs) (l : m ≤ n) : Rng n xs := fun x hx => ⟨(h x hx).1, Int.lt_of_lt_of_le (h x hx).2 l⟩
theorem Rng.take {m : Int} {xs : List Int} (h : Rng m xs) (k : Nat) : Rng m (xs.take k) := fun x hx => h x (List.mem_of_mem_take hx)
theorem flat_rep (x : Int) : ∀ k : Nat, (List.replicate k [V.int x]).flatten = (List.replicate k x).map V.int
  | 0 => rfl
  | k + 1 => by
    rw [List.replicate_succ, List.flatten_cons, flat_rep x k, List.replicate_succ, List.map_cons]
    rfl
end Tw
namespace Tw
open PySem PySem.Spec PyProof.Rows L2
theorem flt_in {α : Type} {p : α → Bool} {l : List α} {a : α} (h : p a = true) : (l ++ [a]).filter p = l.filter p ++ [a] := by
  rw [List.filter_append, List.filter_cons_of_pos h]
  rfl
theorem flt_out {α : Type} {p : α → Bool} {l : List α} {a : α} (h : ¬ p a = true) : (l ++ [a]).filter p = l.filter p := by
  rw [List.filter_append, List.filter_cons_of_neg h]
  simp
theorem take_snoc {xs : List Int} {i : Nat} (li : i < xs.length) : xs.take (i + 1) = xs.take i ++ [xs.getD i 0] := by
  rw [List.take_succ, List.getElem?_eq_getElem li, get_D (List.getElem?_eq_getElem li)]
  rfl
end Tw
namespace Tw
open PySem PySem.Spec PyProof.Rows L2
theorem nd_len : ∀ (l m : List Int), l.Nodup → (∀ x ∈ l, x ∈ m) → l.length ≤ m.length
  | [], _, _, _ => Nat.zero_le _
  | a :: r, m, nd, h => by
    rw [List.nodup_cons] at nd
    have ha := h a List.mem_cons_self
    have ih := nd_len r (m.erase a) nd.2 (fun x hx => (List.mem_erase_of_ne (fun (e : x = a) => nd.1 (e ▸ hx))).mpr (h x (List.mem_cons_of_mem _ hx)))
    rw [List.length_erase_of_mem ha] at ih
    have : 0 < m.length := List.length_pos_of_mem ha
    simp only [List.length_cons]
    omega
theorem lt_nodup {l : List Int} (h : l.Pairwise (· < ·)) : l.Nodup := by
  rw [List.nodup_iff_pairwise_ne]
  exact h.imp fun {a b} z => by omega
theorem mods_len {zs : List Int} {l : Int} (h : l ∈ zs) : ((zs.map (· % l)).filter (fun y => decide (y > 0))).length < zs.length := by
  have := (List.length_filter_lt_length_iff_exists (l := zs.map (· % l)) (p := fun y : Int => decide (y > 0))).mpr ⟨l % l, List.mem_map.mpr ⟨l, h, rfl⟩, by rw [Int.emod_self]; simp⟩
  rw [List.length_map] at this
  exact this
end Tw

/-! The times that fit: residue classes, narrowed one condition after the other. -/
namespace Tw
open PySem PySem.Spec PyProof.Rows L2

/-- times t fits the first k conditions of a row -/
def FitU (m : Int) (xs : List Int) (k : Nat) (t : Int) : Prop := ∀ i, i < k → m ∣ t * gat xs i - gat xs (i + 1)
/-- o tells all that fit -/
def FitR (m : Int) (xs : List Int) (k : Nat) : Option (Int × Int) → Prop
  | some (l, s) => 0 < s ∧ s ∣ m ∧ 0 ≤ l ∧ l < s ∧ ∀ t, FitU m xs k t ↔ s ∣ t - l
  | none => ∀ t, ¬ FitU m xs k t
theorem fitU_zero (m : Int) (xs : List Int) (t : Int) : FitU m xs 0 t := fun i hi => absurd hi (Nat.not_lt_zero _)
theorem fitU_succ {m : Int} {xs : List Int} {k : Nat} {t : Int} : FitU m xs (k + 1) t ↔ FitU m xs k t ∧ m ∣ t * gat xs k - gat xs (k + 1) := by
  constructor
  · intro h
    exact ⟨fun i hi => h i (by omega), h k (by omega)⟩
  · rintro ⟨a, b⟩ i hi
    by_cases e : i = k
    · rw [e]; exact b
    · exact a i (by omega)
theorem fitU_mono {m : Int} {xs : List Int} {j k : Nat} {t : Int} (h : FitU m xs k t) (l : j ≤ k) : FitU m xs j t := fun i hi => h i (by omega)
theorem fitR_zero {m : Int} (m0 : 0 < m) (xs : List Int) : FitR m xs 0 (some (0, 1)) := ⟨by decide, Int.one_dvd m, by decide, by decide, fun t => ⟨fun _ => Int.one_dvd _, fun _ => fitU_zero m xs t⟩⟩
theorem FitR.uniq {m : Int} {xs : List Int} {k : Nat} {a b : Option (Int × Int)} (ha : FitR m xs k a) (hb : FitR m xs k b) : a = b := by
  cases a with
  | none =>
    cases b with
    | none => rfl
    | some p =>
      obtain ⟨l, s⟩ := p
      obtain ⟨_, _, _, _, h⟩ := hb
      exact absurd ((h l).mpr (by rw [Int.sub_self]; exact Int.dvd_zero s)) (ha l)
  | some p =>
    obtain ⟨l, s⟩ := p
    obtain ⟨s0, _, l0, l1, h⟩ := ha
    cases b with
    | none => exact absurd ((h l).mpr (by rw [Int.sub_self]; exact Int.dvd_zero s)) (hb l)
    | some q =>
      obtain ⟨l', s'⟩ := q
      obtain ⟨s0', _, l0', l1', h'⟩ := hb
      have e1 : s' ∣ l - l' := (h' l).mp ((h l).mpr (by rw [Int.sub_self]; exact Int.dvd_zero s))
      have e2 : s' ∣ l + s - l' := (h' (l + s)).mp ((h _).mpr (by rw [show l + s - l = s by omega]; exact Int.dvd_refl s))
      have e3 : s ∣ l' - l := (h l').mp ((h' l').mpr (by rw [Int.sub_self]; exact Int.dvd_zero s'))
      have e4 : s ∣ l' + s' - l := (h (l' + s')).mp ((h' _).mpr (by rw [show l' + s' - l' = s' by omega]; exact Int.dvd_refl s'))
      have d1 : s' ∣ s := by
        have := Int.dvd_sub e2 e1
        rw [show l + s - l' - (l - l') = s by omega] at this
        exact this
      have d2 : s ∣ s' := by
        have := Int.dvd_sub e4 e3
        rw [show l' + s' - l - (l' - l) = s' by omega] at this
        exact this
      have es : s = s' := Int.dvd_antisymm (by omega) (by omega) d2 d1
      subst es
      have el : l = l' := by
        have h2 : l % s = l' % s := Int.emod_eq_emod_iff_emod_sub_eq_zero.mpr (Int.emod_eq_zero_of_dvd e1)
        rw [Int.emod_eq_of_lt l0 l1, Int.emod_eq_of_lt l0' l1'] at h2
        exact h2
      rw [el]
/-- conditions by a count: t = l + c * s -/
theorem cond_count {m l s g h c : Int} : m ∣ (l + c * s) * g - h ↔ ((s * g % m) * c + l * g % m - h % m) % m = 0 := by
  have e : (s * g % m) * c + l * g % m - h % m = ((l + c * s) * g - h) - m * ((s * g / m) * c + l * g / m - h / m) := by
    have h1 := Int.mul_ediv_add_emod (s * g) m
    have h2 := Int.mul_ediv_add_emod (l * g) m
    have h3 := Int.mul_ediv_add_emod h m
    have e1 : s * g % m = s * g - m * (s * g / m) := by omega
    have e2 : l * g % m = l * g - m * (l * g / m) := by omega
    have e3 : h % m = h - m * (h / m) := by omega
    rw [e1, e2, e3]
    grind
  rw [e, Int.sub_mul_emod_self_left]
  exact Int.dvd_iff_emod_eq_zero
theorem fit_none {m l s : Int} {xs : List Int} {k : Nat} (m0 : 0 < m) (F : FitR m xs k (some (l, s))) (h : (gat xs (k + 1) % m - l * gat xs k % m) % (Int.gcd (s * gat xs k % m) m : Nat) ≠ 0) : FitR m xs (k + 1) none := by
  obtain ⟨s0, sd, l0, l1, hF⟩ := F
  intro t ht
  obtain ⟨a, b⟩ := fitU_succ.mp ht
  obtain ⟨c, hc⟩ := (hF t).mp a
  have et : t = l + c * s := by rw [Int.mul_comm c s, ← hc]; omega
  rw [et] at b
  exact no_bef (x := c) m0 h (cond_count.mp b)
theorem fit_some {m l s x : Int} {xs : List Int} {k : Nat} (m0 : 0 < m) (F : FitR m xs k (some (l, s))) (B : Bef (s * gat xs k % m) (l * gat xs k % m) m (gat xs (k + 1) % m) x) : FitR m xs (k + 1) (some (l + x * s, m / (Int.gcd (s * gat xs k % m) m : Nat) * s)) := by
  obtain ⟨s0, sd, l0, l1, hF⟩ := F
  have nr := mod_bd (gat xs (k + 1)) m0
  have iff := fun y => bef_iff (y := y) m0 nr.1 nr.2 B
  obtain ⟨e1, e2, e3, e4⟩ := gcd_parts (t := s * gat xs k % m) m0
  obtain ⟨x0, x1, _⟩ := B
  have gd : s ∣ (Int.gcd (s * gat xs k % m) m : Nat) := by
    refine Int.dvd_coe_gcd ?_ sd
    have h1 := Int.mul_ediv_add_emod (s * gat xs k) m
    have e : s * gat xs k % m = s * gat xs k - m * (s * gat xs k / m) := by omega
    rw [e]
    exact Int.dvd_sub (Int.dvd_mul_right _ _) (Int.dvd_trans sd (Int.dvd_mul_right _ _))
  generalize (Int.gcd (s * gat xs k % m) m : Nat) = d at *
  generalize hap : m / (d : Int) = a at *
  refine ⟨Int.mul_pos e3 s0, ?_, ?_, ?_, fun t => ?_⟩
  · obtain ⟨q, hq⟩ := gd
    rw [e2, hq]
    exact ⟨q, by grind⟩
  · have := Int.mul_nonneg x0 (Int.le_of_lt s0)
    omega
  · have h1 : (x + 1) * s ≤ a * s := Int.mul_le_mul_of_nonneg_right (by omega) (by omega)
    have h2 : (x + 1) * s = x * s + s := by grind
    omega
  · rw [fitU_succ, hF t]
    constructor
    · rintro ⟨⟨c, hc⟩, h⟩
      have et : t = l + c * s := by rw [Int.mul_comm c s, ← hc]; omega
      subst et
      have hx := (iff c).mp (cond_count.mp h)
      have hd := Int.mul_ediv_add_emod c a
      rw [hx] at hd
      exact ⟨c / a, by rw [← hd]; grind⟩
    · rintro ⟨q, hq⟩
      have et : t = l + (x + a * q) * s := by grind
      refine ⟨⟨x + a * q, by rw [et]; grind⟩, ?_⟩
      rw [et]
      refine cond_count.mpr ((iff _).mpr ?_)
      rw [Int.add_mul_emod_self_left, Int.emod_eq_of_lt x0 x1]
end Tw

/-! Quotients by any number; the fit by going from remainder to remainder; promises of the fits. -/
namespace Tw
open PySem PySem.Spec PyProof.Rows L2

theorem op_fdivZ {X : Cx} : OpR X (binaryOp .FloorDiv) (rI (fun _ j => j ≠ 0 ∧ Big j) fun i j => .int (i.fdiv j)) := opI fun i j _ _ _ _ _ hc q =>
  floordiv_int hc.1 q (.inl (PyProof.noPylong_of_log2 (Nat.lt_of_lt_of_le (PySem.Flt.log2_lt_of (by decide) hc.2.abs) (by decide))))
theorem fd_bd {n o : Int} (h : o ≠ 0) : (n - n.fdiv o * o).natAbs < o.natAbs := by
  by_cases p : 0 < o
  · rw [Int.fdiv_eq_ediv_of_nonneg n (by omega)]
    have h1 := Int.mul_ediv_add_emod n o
    have h2 := mod_bd n p
    have e : n - n / o * o = n % o := by rw [Int.mul_comm]; omega
    rw [e]
    omega
  · rw [← Int.neg_fdiv_neg, Int.fdiv_eq_ediv_of_nonneg (-n) (by omega)]
    have h1 := Int.mul_ediv_add_emod (-n) (-o)
    have h2 := mod_bd (-n) (show 0 < -o by omega)
    have e : n - -n / -o * o = -(-n % -o) := by
      have : -o * (-n / -o) = -(-n / -o * o) := by grind
      omega
    rw [e]
    omega
theorem fd_abs {n o : Int} (h : o ≠ 0) : (n.fdiv o).natAbs ≤ n.natAbs + o.natAbs := by
  have b := fd_bd (n := n) h
  have h1 : (n.fdiv o * o).natAbs ≤ n.natAbs + o.natAbs := by omega
  rw [Int.natAbs_mul] at h1
  have h2 : (n.fdiv o).natAbs * 1 ≤ (n.fdiv o).natAbs * o.natAbs := Nat.mul_le_mul_left _ (by omega)
  omega
theorem gcd_ext {a b a' b' : Int} (h : ∀ d : Int, (d ∣ a ∧ d ∣ b) ↔ (d ∣ a' ∧ d ∣ b')) : Int.gcd a b = Int.gcd a' b' := by
  refine Nat.dvd_antisymm ?_ ?_
  · have := (h (Int.gcd a b : Nat)).mp ⟨Int.gcd_dvd_left .., Int.gcd_dvd_right ..⟩
    exact Int.ofNat_dvd.mp (Int.dvd_coe_gcd this.1 this.2)
  · have := (h (Int.gcd a' b' : Nat)).mpr ⟨Int.gcd_dvd_left .., Int.gcd_dvd_right ..⟩
    exact Int.ofNat_dvd.mp (Int.dvd_coe_gcd this.1 this.2)
theorem gcd_euc (n o q : Int) : Int.gcd o (n - q * o) = Int.gcd n o := gcd_ext fun d => by
  constructor
  · rintro ⟨a, b⟩
    have := Int.dvd_add b (Int.dvd_trans a (Int.dvd_mul_left q o))
    rw [show n - q * o + q * o = n by omega] at this
    exact ⟨this, a⟩
  · rintro ⟨a, b⟩
    exact ⟨b, Int.dvd_sub a (Int.dvd_trans b (Int.dvd_mul_left q o))⟩
theorem euc_sol {m t n o d e q : Int} : (m ∣ t * n - d ∧ m ∣ t * o - e) ↔ (m ∣ t * o - e ∧ m ∣ t * (n - q * o) - (d - q * e) % m) := by
  have h1 := Int.mul_ediv_add_emod (d - q * e) m
  have e1 : t * (n - q * o) - (d - q * e) % m = (t * n - d) - q * (t * o - e) + m * ((d - q * e) / m) := by grind
  have hm : m ∣ m * ((d - q * e) / m) := Int.dvd_mul_right _ _
  constructor
  · rintro ⟨a, b⟩
    refine ⟨b, ?_⟩
    rw [e1]
    exact Int.dvd_add (Int.dvd_sub a (Int.dvd_trans b (Int.dvd_mul_left _ _))) hm
  · rintro ⟨b, a⟩
    refine ⟨?_, b⟩
    rw [e1] at a
    have h2 := Int.dvd_add (Int.dvd_sub a hm) (Int.dvd_trans b (Int.dvd_mul_left q (t * o - e)))
    rw [show t * n - d - q * (t * o - e) + m * ((d - q * e) / m) - m * ((d - q * e) / m) + q * (t * o - e) = t * n - d by omega] at h2
    exact h2
/-- one condition for all -/
structure OneC (m : Int) (xs : List Int) (k : Nat) (n d : Int) : Prop where
  nz : n ≠ 0
  dv : n ∣ m
  sol : ∀ t, FitU m xs k t ↔ m ∣ t * n - d
theorem oneC_zero {m : Int} (m0 : 0 < m) (xs : List Int) : OneC m xs 0 m 0 := ⟨by omega, Int.dvd_refl m, fun t => ⟨fun _ => by rw [Int.sub_zero]; exact Int.dvd_mul_left t m, fun _ => fitU_zero m xs t⟩⟩
theorem OneC.none {m n d : Int} {xs : List Int} {k K : Nat} (h : OneC m xs k n d) (hk : k ≤ K) (nd : d % n ≠ 0) : FitR m xs K Option.none := fun t ht => by
  have h1 := (h.sol t).mp (fitU_mono ht hk)
  have h2 := Int.dvd_trans h.dv h1
  refine nd (Int.emod_eq_zero_of_dvd ?_)
  have h3 := Int.dvd_sub (Int.dvd_mul_left t n) h2
  rw [show t * n - (t * n - d) = d by omega] at h3
  exact h3
theorem OneC.some {m n d : Int} {xs : List Int} {k : Nat} (m0 : 0 < m) (n0 : 0 < n) (h : OneC m xs k n d) (hd : d % n = 0) : FitR m xs k (Option.some (d / n % (m / n), m / n)) := by
  obtain ⟨s, hs⟩ := h.dv
  have es : m / n = s := by rw [hs]; exact Int.mul_ediv_cancel_left _ (by omega)
  have s0 : 0 < s := by
    by_cases z : 0 < s
    · exact z
    · have := Int.mul_nonneg (show 0 ≤ n by omega) (show 0 ≤ -s by omega)
      have e : n * -s = -(n * s) := by grind
      omega
  have ed : d = n * (d / n) := by have := Int.mul_ediv_add_emod d n; omega
  rw [es]
  have bs := mod_bd (d / n) s0
  refine ⟨s0, ⟨n, by rw [hs, Int.mul_comm]⟩, bs.1, bs.2, fun t => ?_⟩
  rw [h.sol t]
  have e1 : t * n - d = n * (t - d / n) := by
    have : n * (t - d / n) = t * n - n * (d / n) := by grind
    omega
  rw [e1, hs, Int.mul_dvd_mul_iff_left (by omega)]
  have h1 := Int.mul_ediv_add_emod (d / n) s
  have e2 : t - d / n % s = (t - d / n) + s * (d / n / s) := by omega
  rw [e2]
  constructor
  · intro h
    exact Int.dvd_add h (Int.dvd_mul_right _ _)
  · intro h
    have := Int.dvd_sub h (Int.dvd_mul_right s (d / n / s))
    rw [show t - d / n + s * (d / n / s) - s * (d / n / s) = t - d / n by omega] at this
    exact this
theorem OneC.neg {m n d : Int} {xs : List Int} {k : Nat} (h : OneC m xs k n d) : OneC m xs k (0 - n) (0 - d) := by
  refine ⟨by have := h.nz; omega, ?_, fun t => ?_⟩
  · rw [Int.zero_sub]
    exact Int.neg_dvd.mpr h.dv
  · rw [h.sol t, show t * (0 - n) - (0 - d) = -(t * n - d) by grind]
    exact Int.dvd_neg.symm
/-- what a fit is told by -/
def FitV (m : Int) (xs : List Int) (j : Nat) (H : Hp) (v : V) : Prop := (v = .non ∧ FitR m xs j none) ∨ ∃ (q : Addr) (l s : Int), v = .ref q ∧ H q = some (.tup [.int l, .int s]) ∧ FitR m xs j (some (l, s))
theorem FitV.same {m : Int} {xs : List Int} {j : Nat} {H H' : Hp} {v : V} (h : FitV m xs j H v) (s : Same H H') : FitV m xs j H' v := by
  rcases h with h | ⟨q, l, st, e, hq, r⟩
  · exact .inl h
  · exact .inr ⟨q, l, st, e, s _ _ hq, r⟩
theorem fitR_none_mono {m : Int} {xs : List Int} {j k : Nat} (h : FitR m xs j none) (l : j ≤ k) : FitR m xs k none := fun t ht => h t (fitU_mono ht l)
def pFitL (K : PySem.W.Frag) : V → V → Hp → VK → XK → Prop := fun a b H Q _ => ∃ (r : Addr) (xs : List Int) (m : Int), a = .ref r ∧ b = .int m ∧ SqT K H r (xs.map V.int) ∧ 1 ≤ m ∧ m ≤ 1000000000000 ∧ Rng m xs ∧ xs.length ≤ 1000 ∧
  ∀ H' v, Same H H' → FitV m xs (xs.length - 2) H' v → (∀ q, v = .ref q → H q = none) → Q v H'
def pNarrow : V → V → V → V → Hp → VK → XK → Prop := fun a b c e H Q _ => ∃ (v : V) (xs : List Int) (k : Nat) (m : Int), a = v ∧ b = .int (gat xs k) ∧ c = .int (gat xs (k + 1)) ∧ e = .int m ∧ FitV m xs k H v ∧ 1 ≤ m ∧ m ≤ 1000000000000 ∧ Rng m xs ∧
  ∀ H' v', Same H H' → FitV m xs (k + 1) H' v' → (∀ q, v' = .ref q → H q = none) → Q v' H'
/-- the first number that is none of the bound's -/
def FirstBad (m : Int) (xs : List Int) (i : Nat) : Prop := i < xs.length ∧ ¬ (0 ≤ xs.getD i 0 ∧ xs.getD i 0 < m) ∧ ∀ j, j < i → 0 ≤ xs.getD j 0 ∧ xs.getD j 0 < m
theorem rng_or_bad (m : Int) (xs : List Int) : Rng m xs ∨ ∃ i, FirstBad m xs i := by
  have : ∀ k, k ≤ xs.length → (∀ j, j < k → 0 ≤ xs.getD j 0 ∧ xs.getD j 0 < m) ∨ ∃ i, FirstBad m xs i := by
    intro k
    induction k with
    | zero => exact fun _ => .inl fun j hj => absurd hj (Nat.not_lt_zero _)
    | succ k ih =>
      intro hk
      rcases ih (by omega) with h | h
      · by_cases b : 0 ≤ xs.getD k 0 ∧ xs.getD k 0 < m
        · refine .inl fun j hj => ?_
          by_cases e : j = k
          · rw [e]; exact b
          · exact h j (by omega)
        · exact .inr ⟨k, by omega, b, h⟩
      · exact .inr h
  rcases this xs.length (Nat.le_refl _) with h | h
  · refine .inl fun x hx => ?_
    obtain ⟨i, hi, e⟩ := List.getElem_of_mem hx
    have := h i hi
    rw [get_D (List.getElem?_eq_getElem hi), e] at this
    exact this
  · exact .inr h
def pTimes (K : PySem.W.Frag) (CN : Addr) : V → V → Hp → VK → XK → Prop := fun a b H Q E => ∃ (r : Addr) (xs : List Int) (m : Int), a = .ref r ∧ b = .int m ∧ SqT K H r (xs.map V.int) ∧ 1 ≤ m ∧ m ≤ 1000000000000 ∧ xs.length ≤ 1000 ∧
  (Rng m xs → ∀ H' v, Same H H' → FitV m xs (xs.length - 2) H' v → (∀ q, v = .ref q → H q = none) → Q v H') ∧ (∀ i, FirstBad m xs i → Bad CN (xs.getD i 0) H E)
/-- all fits on the way -/
def FitsV (m : Int) (xs : List Int) (H : Hp) (vs : List V) : Prop := ∀ j v, vs[j]? = some v → FitV m xs j H v
def pFits (K : PySem.W.Frag) (CN : Addr) : V → V → Hp → VK → XK → Prop := fun a b H Q E => ∃ (r : Addr) (xs : List Int) (m : Int), a = .ref r ∧ b = .int m ∧ SqT K H r (xs.map V.int) ∧ 1 ≤ m ∧ m ≤ 1000000000000 ∧ xs.length ≤ 1000 ∧
  (Rng m xs → ∀ H' l vs, Same H H' → H l = none → H' l = some (.lst vs) → vs.length = xs.length - 2 + 1 → FitsV m xs H' vs → (∀ q, .ref q ∈ vs → H q = none) → Q (.ref l) H') ∧ (∀ i, FirstBad m xs i → Bad CN (xs.getD i 0) H E)
section
variable {P : Program} {w : World} {K : PySem.W.Frag} {mg : Str → Option Value} {base : Heap} {x : Str} {st : Stmt} {N : List Str} {k : Nat}
theorem Top.ok4q {a b c d : Str} {p : V → V → V → V → Hp → VK → XK → Prop} (D : Top K mg x st [a, b, c, d]) (S : FnScope N [a, b, c, d] (defScope st))
    (hbody : ∀ (f : Addr) (cdv : Value) (A : Around) (outer : List Env) (s : Shared) (H : Hp) (v1 v2 v3 v4 : V) (Q : VK) (E : XK), Room k (A.deeper (envOfC x (defScope st) s.heap.objs.size f cdv)) → p v1 v2 v3 v4 H Q E →
      ∃ t, PSs (cxOf CX0 P w K mg base N x (defScope st) f cdv A outer s H E).nox (defBody st) t ∧ t { nx := fun _ H' => Q .non H', rt := Q } (start N [v1, v2, v3, v4]) H) : Has P w K mg base CX0 (k + 1) x [a, b, c, d] (sp4 p) :=
  D.ok S (fun vs H Q E h => by obtain ⟨_, _, _, _, rfl, _⟩ := h; rfl) (fun f cdv A outer s H vs Q E hr h => by obtain ⟨v1, v2, v3, v4, rfl, h⟩ := h; exact hbody f cdv A outer s H v1 v2 v3 v4 Q E hr h)
end
end Tw

/-! Fits by going through all times; data compared. -/
namespace Tw
open PySem PySem.Spec PyProof.Rows L2

theorem eqvAll_ints : ∀ as bs : List Int, PyData.eqvAll (as.map PyData.int) (bs.map PyData.int) = decide (as = bs)
  | [], [] => by simp [PyData.eqvAll]
  | [], b :: bs => by simp [PyData.eqvAll]
  | a :: as, [] => by simp [PyData.eqvAll]
  | a :: as, b :: bs => by
    rw [List.map_cons, List.map_cons, PyData.eqvAll, eqvAll_ints as bs]
    by_cases h : a = b
    · subst h
      by_cases h2 : as = bs <;> simp [PyData.eqv, h2]
    · simp [PyData.eqv, h]
theorem eqv_lints (as bs : List Int) : PyData.eqv (.list (as.map PyData.int)) (.list (bs.map PyData.int)) = decide (as = bs) := by
  rw [PyData.eqv, eqvAll_ints]
theorem eqv_tints (as bs : List Int) : PyData.eqv (.tuple (as.map PyData.int)) (.tuple (bs.map PyData.int)) = decide (as = bs) := by
  rw [PyData.eqv, eqvAll_ints]
theorem FirstBad.no {m : Int} {xs : List Int} {i : Nat} (h : FirstBad m xs i) (rg : Rng m xs) : False := by
  have l := h.1
  have := h.2.1
  rw [get_D (List.getElem?_eq_getElem l)] at this
  exact this (rg _ (List.getElem_mem l))
/-- the plus of times t -/
def plusOf (m : Int) (xs : List Int) (t : Int) : Int := (xs.getD 1 0 - t * xs.getD 0 0) % m
theorem mod_eq_of_dvd {m a b : Int} (m0 : 0 < m) (b0 : 0 ≤ b) (b1 : b < m) (h : m ∣ a - b) : a % m = b := by
  have h2 : a % m = b % m := Int.emod_eq_emod_iff_emod_sub_eq_zero.mpr (Int.emod_eq_zero_of_dvd h)
  rw [h2, Int.emod_eq_of_lt b0 b1]
theorem dvd_of_mod_eq {m a b : Int} (h : a % m = b) : m ∣ a - b := by
  have h1 := Int.mul_ediv_add_emod a m
  exact ⟨a / m, by omega⟩
theorem step_iff {m : Int} {xs : List Int} (m0 : 0 < m) (rg : Rng m xs) (t : Int) : ∀ k, (∀ i, i < k + 1 → (t * xs.getD i 0 + plusOf m xs t) % m = xs.getD (i + 1) 0) ↔ FitU m xs k t
  | 0 => by
    refine ⟨fun _ => fitU_zero m xs t, fun _ i hi => ?_⟩
    have e : i = 0 := by omega
    subst e
    have g := getD_rng m0 rg 1
    refine mod_eq_of_dvd m0 g.1 g.2 ?_
    have h1 := Int.mul_ediv_add_emod (xs.getD 1 0 - t * xs.getD 0 0) m
    unfold plusOf
    exact ⟨-((xs.getD 1 0 - t * xs.getD 0 0) / m), by grind⟩
  | k + 1 => by
    rw [fitU_succ, ← step_iff m0 rg t k]
    constructor
    · intro h
      refine ⟨fun i hi => h i (by omega), ?_⟩
      have h1 := dvd_of_mod_eq (h k (by omega))
      have h2 := dvd_of_mod_eq (h (k + 1) (by omega))
      have h3 := Int.dvd_sub h2 h1
      unfold gat
      rw [show t * (xs.getD (k + 1) 0 - xs.getD k 0) - (xs.getD (k + 1 + 1) 0 - xs.getD (k + 1) 0) = t * xs.getD (k + 1) 0 + plusOf m xs t - xs.getD (k + 1 + 1) 0 - (t * xs.getD k 0 + plusOf m xs t - xs.getD (k + 1) 0) by grind]
      exact h3
    · rintro ⟨h, h3⟩ i hi
      by_cases e : i = k + 1
      · subst e
        have g := getD_rng m0 rg (k + 1 + 1)
        refine mod_eq_of_dvd m0 g.1 g.2 ?_
        have h1 := dvd_of_mod_eq (h k (by omega))
        have h4 := Int.dvd_add h1 h3
        unfold gat at h4
        rw [show t * xs.getD (k + 1) 0 + plusOf m xs t - xs.getD (k + 1 + 1) 0 = t * xs.getD k 0 + plusOf m xs t - xs.getD (k + 1) 0 + (t * (xs.getD (k + 1) 0 - xs.getD k 0) - (xs.getD (k + 1 + 1) 0 - xs.getD (k + 1) 0)) by grind]
        exact h4
      · exact h i (by omega)
/-- sorted, all of a class below m -/
theorem class_head {m l s : Int} {ks : List Int} (m0 : 0 < m) (s0 : 0 < s) (sd : s ∣ m) (l0 : 0 ≤ l) (l1 : l < s) (up : ks.Pairwise (· < ·)) (mem : ∀ t, t ∈ ks ↔ 0 ≤ t ∧ t < m ∧ s ∣ t - l) :
    ∃ rest, ks = l :: rest ∧ (rest ++ [l + m]).head? = some (l + s) := by
  have sm : s ≤ m := Int.le_of_dvd m0 sd
  have hl : l ∈ ks := (mem l).mpr ⟨l0, by omega, by rw [Int.sub_self]; exact Int.dvd_zero s⟩
  have low : ∀ t ∈ ks, t = l ∨ l + s ≤ t := fun t ht => by
    obtain ⟨t0, _, c, hc⟩ := (mem t).mp ht
    by_cases c0 : c ≤ -1
    · have := Int.mul_le_mul_of_nonneg_left c0 (show 0 ≤ s by omega)
      have e : s * -1 = -s := by grind
      omega
    · by_cases cz : c = 0
      · subst cz
        rw [Int.mul_zero] at hc
        exact .inl (by omega)
      · have := Int.mul_le_mul_of_nonneg_left (show 1 ≤ c by omega) (show 0 ≤ s by omega)
        rw [Int.mul_one] at this
        exact .inr (by omega)
  cases ks with
  | nil => cases hl
  | cons a rest =>
    obtain ⟨ua, ur⟩ := List.pairwise_cons.mp up
    have ea : a = l := by
      rcases List.mem_cons.mp hl with e | h
      · exact e.symm
      · have h1 := ua l h
        rcases low a List.mem_cons_self with e | e <;> omega
    subst ea
    refine ⟨rest, rfl, ?_⟩
    by_cases hs : s = m
    · subst hs
      have er : rest = [] := by
        cases rest with
        | nil => rfl
        | cons b r =>
          have h1 := ua b List.mem_cons_self
          have hb : b ∈ a :: b :: r := by simp
          have h2 := (mem b).mp hb
          rcases low b hb with e | e <;> omega
      rw [er]
      rfl
    · have hls : a + s ∈ a :: rest := by
        refine (mem _).mpr ⟨by omega, ?_, by rw [show a + s - a = s by omega]; exact Int.dvd_refl s⟩
        obtain ⟨c, hc⟩ := sd
        have c2 : 2 ≤ c := by
          by_cases z : 2 ≤ c
          · exact z
          · have : c ≤ 1 := by omega
            have := Int.mul_le_mul_of_nonneg_left this (show 0 ≤ s by omega)
            rw [Int.mul_one] at this
            omega
        have := Int.mul_le_mul_of_nonneg_left c2 (show 0 ≤ s by omega)
        omega
      cases rest with
      | nil =>
        rw [List.mem_singleton] at hls
        omega
      | cons b r =>
        have h1 := ua b List.mem_cons_self
        have hb : b ∈ a :: b :: r := by simp
        have h2 : a + s ≤ b := by rcases low b hb with e | e <;> omega
        rcases List.mem_cons.mp hls with e | hls
        · omega
        · rcases List.mem_cons.mp hls with e | h3
          · rw [e]
            rfl
          · have := (List.pairwise_cons.mp ur).1 _ h3
            omega
theorem fitU_mod {m : Int} {xs : List Int} {k : Nat} {t : Int} : FitU m xs k (t % m) ↔ FitU m xs k t := by
  have h1 := Int.mul_ediv_add_emod t m
  have e : ∀ g h : Int, t * g - h = t % m * g - h + m * (t / m * g) := fun g h => by grind
  constructor
  · intro h i hi
    rw [e]
    exact Int.dvd_add (h i hi) (Int.dvd_mul_right _ _)
  · intro h i hi
    have := Int.dvd_sub (h i hi) (Int.dvd_mul_right m (t / m * gat xs i))
    rw [e, show t % m * gat xs i - gat xs (i + 1) + m * (t / m * gat xs i) - m * (t / m * gat xs i) = t % m * gat xs i - gat xs (i + 1) by omega] at this
    exact this
def pTrial (K : PySem.W.Frag) : V → V → Hp → VK → XK → Prop := fun a b H Q _ => ∃ (r : Addr) (xs : List Int) (m : Int) (o : Option (Int × Int)), a = .ref r ∧ b = .int m ∧ SqT K H r (xs.map V.int) ∧ 1 ≤ m ∧ m ≤ 200 ∧ Rng m xs ∧ 2 ≤ xs.length ∧ xs.length ≤ 1000 ∧ FitR m xs (xs.length - 2) o ∧
  ∀ H' v, Same H H' → FitV m xs (xs.length - 2) H' v → Q v H'
def pRight11 (K : PySem.W.Frag) : V → V → Hp → VK → XK → Prop := fun a b H Q _ => ∃ (r : Addr) (xs : List Int) (m : Int), a = .ref r ∧ b = .int m ∧ SqT K H r (xs.map V.int) ∧ 1 ≤ m ∧ m ≤ 1000000000000 ∧ Rng m xs ∧ 2 ≤ xs.length ∧ xs.length ≤ 1000 ∧ ∀ H', Same H H' → Q (.bl true) H'
/-- two told fits are alike: both None, or the same pair -/
theorem FitV.two {m : Int} {xs : List Int} {j : Nat} {H : Hp} {v u : V} (a : FitV m xs j H v) (b : FitV m xs j H u) : (v = .non ∧ u = .non) ∨ ∃ (q p : Addr) (l s : Int), v = .ref q ∧ u = .ref p ∧ H q = some (.tup [.int l, .int s]) ∧ H p = some (.tup [.int l, .int s]) ∧ FitR m xs j (some (l, s)) := by
  rcases a with ⟨rfl, fa⟩ | ⟨q, l, s, rfl, hq, fa⟩
  · rcases b with ⟨rfl, fb⟩ | ⟨p, l', s', rfl, hp, fb⟩
    · exact .inl ⟨rfl, rfl⟩
    · cases fa.uniq fb
  · rcases b with ⟨rfl, fb⟩ | ⟨p, l', s', rfl, hp, fb⟩
    · cases fa.uniq fb
    · have e := fa.uniq fb
      cases e
      exact .inr ⟨q, p, l, s, rfl, rfl, hq, hp, fa⟩
theorem FitV.ex {m : Int} {xs : List Int} {j : Nat} {H : Hp} {v : V} (a : FitV m xs j H v) : ∃ o, FitR m xs j o := by
  rcases a with ⟨_, fa⟩ | ⟨_, l, s, _, _, fa⟩
  · exact ⟨none, fa⟩
  · exact ⟨some (l, s), fa⟩
end Tw

/-! Ranges by great steps; lists of tuples of numbers; the rules that fit. -/
namespace Tw
open PySem PySem.Spec PyProof.Rows L2

/-- how many there are from i below j by steps of c -/
def rgN (i j c : Int) : Nat := if i < j then ((j - i - 1) / c + 1).toNat else 0
def RgS (i j c : Int) : Prop := 0 < c ∧ c ≤ 10000000000000 ∧ -10000000000000 ≤ i ∧ i ≤ 10000000000000 ∧ -10000000000000 ≤ j ∧ j ≤ 10000000000000
theorem rgN_size {i j c : Int} (h : RgS i j c) : Builtin.Range.rangeSize i j c = (rgN i j c : Int) ∧ (rgN i j c : Int) ≤ 20000000000000 := by
  obtain ⟨c0, c1, i0, i1, j0, j1⟩ := h
  unfold Builtin.Range.rangeSize rgN
  rw [if_pos c0]
  by_cases e : i < j
  · rw [if_pos e, if_pos e]
    have h1 : 0 ≤ (j - i - 1) / c := Int.ediv_nonneg (by omega) (by omega)
    have h2 : (j - i - 1) / c ≤ j - i - 1 := Int.ediv_le_self _ (by omega)
    omega
  · rw [if_neg e, if_neg e]
    omega
theorem rgS_small {i j c : Int} (h : RgS i j c) : Builtin.Range.small i j c = true := by
  obtain ⟨e, b⟩ := rgN_size h
  obtain ⟨c0, c1, i0, i1, j0, j1⟩ := h
  unfold Builtin.Range.small
  rw [e]
  simp only [Builtin.Range.rangeFitsLong, Bool.and_eq_true, Bool.or_eq_true, decide_eq_true_eq, beq_iff_eq, if_pos c0]
  omega
def iRngS (ta : TA) : TI := fun σ H R => ta σ H fun vs H1 => ∃ (i j c : Int), vs = [.int i, .int j, .int c] ∧ RgS i j c ∧ R (Itc i c (rgN i j c)) H1
theorem pi_rangeS {X : Cx} {tg a b c : Expr} {ta : TA} {p pos : Pos} (hg : Gl X "range") (hm : X.mg "range" = none) (ha : PA X [a, b, c] ta)
    (hs : starEach [a, b, c] X.env = (false, eval a X.env) :: starEach [b, c] X.env := by rfl) (hpl : (backTo pos (starEach [b, c] X.env)).any (·.1) = false := by rfl) :
    PI X tg (.Call (.Name "range" p) [a, b, c] [] pos) (iRngS ta) := by
  refine ⟨fun pins s σ H R I h => ?_⟩
  refine Call_ (ld_blt I hg hm boot_range (PyProof.Rows.callWith_type1 (thn (ha.run pos pins s σ H _ I h) fun us s1 ⟨vs, H1, I1, r1, q1⟩ => ?_) hs hpl))
  obtain ⟨i, j, k, e, hr, q⟩ := q1
  subst e
  obtain ⟨u1, u2, u3, rfl, ⟨t, rfl⟩, ⟨t', rfl⟩, ⟨t'', rfl⟩⟩ := valsX3 r1
  have hb : Big k := by
    have := hr.1
    have := hr.2.1
    unfold Big
    omega
  refine call_range_3 (by have := hr.1; omega) ?_ (.inl (PyProof.noPylong_of_log2 (Nat.lt_of_lt_of_le (PySem.Flt.log2_lt_of (by decide) hb.abs) (by decide))))
  refine wpAny_pyIter_range (IsRange.new ..) (rgS_small hr) ?_
  have I2 : Inv X pins σ H1 { s1 with heap := s1.heap.push { cls := .type "range", data := .fields #[.int i t, .int j t', .int k t''] } } := I1.kept (t' := s1.toks) fun b o e => Heap.get?_push_of_some _ e
  refine pi_one (tk := s1.toks) I2 _ (turn_rangeC _ i k (rgN i j k)) ?_ q
  have e1 : i + ((0 : Nat) : Int) * k = i := by simp
  have e2 : ((rgN i j k : Nat) : Int) - ((0 : Nat) : Int) = Builtin.Range.rangeSize i j k := by rw [(rgN_size hr).1]; simp
  show IsRangeIter _ _ (i + ((0 : Nat) : Int) * k) (((rgN i j k : Nat) : Int) - ((0 : Nat) : Int)) k
  rw [e1, e2]
  exact Heap.get?_push_size _ rfl
/-! ### lists of tuples of numbers -/
def TRows (H : Hp) (ps : List Addr) (rs : List (List Int)) : Prop := ps.length = rs.length ∧ ∀ (i : Nat) (p : Addr) (r : List Int), ps[i]? = some p → rs[i]? = some r → H p = some (.tup (r.map V.int))
theorem TRows.nil (H : Hp) : TRows H [] [] := ⟨rfl, fun _ _ _ h => by cases h⟩
theorem TRows.same {H H' : Hp} {ps : List Addr} {rs : List (List Int)} (h : TRows H ps rs) (s : Same H H') : TRows H' ps rs := ⟨h.1, fun i p r a b => s _ _ (h.2 i p r a b)⟩
theorem TRows.mut {H : Hp} {ps : List Addr} {rs : List (List Int)} {L : Addr} {xs : List V} {o : HO} (h : TRows H ps rs) (hL : H L = some (.lst xs)) : TRows (upd H L o) ps rs := ⟨h.1, fun i p r a b => by
  have e := h.2 i p r a b
  rw [upd_ne (fun z => by rw [z, hL] at e; cases e)]
  exact e⟩
theorem TRows.snoc {H : Hp} {ps : List Addr} {rs : List (List Int)} {p : Addr} {r : List Int} (h : TRows H ps rs) (hp : H p = some (.tup (r.map V.int))) : TRows H (ps ++ [p]) (rs ++ [r]) := by
  refine ⟨by rw [List.length_append, List.length_append, h.1]; rfl, fun i p' r' a b => ?_⟩
  by_cases e : i < ps.length
  · rw [List.getElem?_append_left e] at a
    rw [List.getElem?_append_left (by rw [← h.1]; exact e)] at b
    exact h.2 i p' r' a b
  · have l1 := (List.getElem?_eq_some_iff.mp a).1
    rw [List.length_append] at l1
    have e' : i = ps.length := by simp at l1; omega
    subst e'
    rw [List.getElem?_append_right (Nat.le_refl _), Nat.sub_self] at a
    rw [h.1, List.getElem?_append_right (Nat.le_refl _), Nat.sub_self] at b
    cases a
    cases b
    exact hp
def dRows (rs : List (List Int)) : PyData := .list (rs.map fun r => .tuple (r.map PyData.int))
theorem lay_rows : ∀ rs : List (List Int), PyData.canLayAll0 (rs.map fun r => .tuple (r.map PyData.int)) = true ∧ PyData.depthAll (rs.map fun r => .tuple (r.map PyData.int)) ≤ 1
  | [] => ⟨rfl, by decide⟩
  | r :: rs => by
    obtain ⟨h1, h2⟩ := lay_rows rs
    obtain ⟨g1, g2⟩ := lay_ints r
    constructor
    · show (PyData.canLayAll0 (r.map PyData.int) && PyData.canLayAll0 (rs.map fun r => .tuple (r.map PyData.int))) = true
      rw [h1, g1]
      rfl
    · show max (PyData.depthAll (r.map PyData.int) + 1) (PyData.depthAll (rs.map fun r => .tuple (r.map PyData.int))) ≤ 1
      rw [g2]
      omega
theorem shp_rows (rs : List (List Int)) : SeqAt.shaped (dRows rs) = true := by
  obtain ⟨h1, h2⟩ := lay_rows rs
  show (PyData.canLayAll0 (rs.map fun r => .tuple (r.map PyData.int)) && decide (PyData.depthAll (rs.map fun r => .tuple (r.map PyData.int)) + 1 ≤ 64)) = true
  rw [h1, decide_eq_true (by omega)]
  rfl
theorem dp_rows {K : PySem.W.Frag} {H : Hp} : ∀ (ps : List Addr) (rs : List (List Int)), TRows H ps rs → DpAll K H (ps.map V.ref) (rs.map fun r => PyData.tuple (r.map PyData.int))
  | [], [], _ => .nil
  | [], _ :: _, h => absurd h.1 (by simp)
  | _ :: _, [], h => absurd h.1 (by simp)
  | p :: ps, r :: rs, h => .cons (.tup (SqT.of (h.2 0 p r rfl rfl)) (dp_ints r)) (dp_rows ps rs ⟨by have := h.1; simp at this; exact this, fun i p' r' a b => h.2 (i + 1) p' r' (by rw [List.getElem?_cons_succ]; exact a) (by rw [List.getElem?_cons_succ]; exact b)⟩)
theorem TRows.dp {K : PySem.W.Frag} {H : Hp} {l : Addr} {ps : List Addr} {rs : List (List Int)} (hl : H l = some (.lst (ps.map V.ref))) (h : TRows H ps rs) : Dp K H (.ref l) (dRows rs) := .lst (SqL.of hl) (dp_rows ps rs h)
/-! ### the first rules that fit -/
def ruleOf (m : Int) (xs : List Int) (t : Int) : List Int := [t, plusOf m xs t, m]
def rulesN (m : Int) (xs : List Int) (l s : Int) (n : Nat) : List (List Int) := (List.range n).map fun (i : Nat) => ruleOf m xs (l + (i : Int) * s)
def howMany (m : Int) (n : Int) : Option (Int × Int) → Nat
  | some (_, s) => (min n (m / s)).toNat
  | none => 0
def rulesR (m : Int) (xs : List Int) (n : Int) (o : Option (Int × Int)) : List (List Int) := match o with
  | some (l, s) => rulesN m xs l s (howMany m n (some (l, s)))
  | none => []
theorem rulesN_succ (m : Int) (xs : List Int) (l s : Int) (n : Nat) : rulesN m xs l s (n + 1) = rulesN m xs l s n ++ [ruleOf m xs (l + (n : Int) * s)] := by
  unfold rulesN
  rw [List.range_succ, List.map_append]
  rfl
theorem rulesN_len (m : Int) (xs : List Int) (l s : Int) (n : Nat) : (rulesN m xs l s n).length = n := by
  unfold rulesN
  rw [List.length_map, List.length_range]
/-- how many the range tells -/
theorem rg_count {m l s n : Int} (m0 : 0 < m) (s0 : 0 < s) (sd : s ∣ m) (l0 : 0 ≤ l) (l1 : l < s) (n0 : 0 ≤ n) : rgN l (if l + s * n < m then l + s * n else m) s = (min n (m / s)).toNat := by
  obtain ⟨c, rfl⟩ := sd
  have c0 : 0 < c := by
    by_cases z : 0 < c
    · exact z
    · have := Int.mul_nonneg (show 0 ≤ s by omega) (show 0 ≤ -c by omega)
      have e : s * -c = -(s * c) := by grind
      omega
  rw [Int.mul_ediv_cancel_left _ (show s ≠ 0 by omega)]
  unfold rgN
  by_cases h : l + s * n < s * c
  · rw [if_pos h]
    have nc : n < c := by
      by_cases z : n < c
      · exact z
      · have := Int.mul_le_mul_of_nonneg_left (show c ≤ n by omega) (show 0 ≤ s by omega)
        omega
    by_cases hn : n = 0
    · subst hn
      rw [Int.mul_zero, if_neg (by omega)]
      omega
    · have h1 := Int.mul_le_mul_of_nonneg_left (show 1 ≤ n by omega) (show 0 ≤ s by omega)
      rw [Int.mul_one] at h1
      rw [if_pos (by omega)]
      have e : (l + s * n - l - 1) / s = n - 1 := by
        rw [show l + s * n - l - 1 = (s - 1) + s * (n - 1) by grind, Int.add_mul_ediv_left _ _ (show s ≠ 0 by omega), Int.ediv_eq_zero_of_lt (by omega) (by omega)]
        omega
      rw [e]
      omega
  · rw [if_neg h]
    have cn : c ≤ n := by
      by_cases z : c ≤ n
      · exact z
      · have := Int.mul_le_mul_of_nonneg_left (show n + 1 ≤ c by omega) (show 0 ≤ s by omega)
        have e : s * (n + 1) = s * n + s := by grind
        omega
    have h1 := Int.mul_le_mul_of_nonneg_left (show 1 ≤ c by omega) (show 0 ≤ s by omega)
    rw [Int.mul_one] at h1
    rw [if_pos (by omega)]
    have e : (s * c - l - 1) / s = c - 1 := by
      rw [show s * c - l - 1 = (s - 1 - l) + s * (c - 1) by grind, Int.add_mul_ediv_left _ _ (show s ≠ 0 by omega), Int.ediv_eq_zero_of_lt (by omega) (by omega)]
      omega
    rw [e]
    omega
def pRules (K : PySem.W.Frag) (CN : Addr) : V → V → V → Hp → VK → XK → Prop := fun a b c H Q E => ∃ (r : Addr) (xs : List Int) (m n : Int), a = .ref r ∧ b = .int m ∧ c = .int n ∧ SqT K H r (xs.map V.int) ∧ 1 ≤ m ∧ m ≤ 1000000000000 ∧ 0 ≤ n ∧ n ≤ 3000 ∧ 2 ≤ xs.length ∧ xs.length ≤ 1000 ∧
  (Rng m xs → ∀ H' l ps o, Same H H' → H l = none → H' l = some (.lst (ps.map V.ref)) → TRows H' ps (rulesR m xs n o) → FitR m xs (xs.length - 2) o → Q (.ref l) H') ∧ (∀ i, FirstBad m xs i → Bad CN (xs.getD i 0) H E)
end Tw
namespace Tw
open PySem PySem.Spec PyProof.Rows L2
def pDueR (K : PySem.W.Frag) : V → V → V → Hp → VK → XK → Prop := fun a b c H Q _ => ∃ (r : Addr) (xs : List Int) (m n : Int), a = .ref r ∧ b = .int m ∧ c = .int n ∧ SqT K H r (xs.map V.int) ∧ 1 ≤ m ∧ m ≤ 1000000000000 ∧ 0 ≤ n ∧ n ≤ 3000 ∧ 2 ≤ xs.length ∧ xs.length ≤ 1000 ∧ Rng m xs ∧
  ∀ H' l ps o, Same H H' → H l = none → H' l = some (.lst (ps.map V.ref)) → TRows H' ps (rulesR m xs n o) → FitR m xs (xs.length - 2) o → Q (.ref l) H'
def pAreR : V → V → Hp → VK → XK → Prop := fun a b H Q _ => ∃ (l1 l2 : Addr) (ps1 ps2 : List Addr) (rs : List (List Int)), a = .ref l1 ∧ b = .ref l2 ∧ H l1 = some (.lst (ps1.map V.ref)) ∧ H l2 = some (.lst (ps2.map V.ref)) ∧ TRows H ps1 rs ∧ TRows H ps2 rs ∧ ∀ H', Same H H' → Q (.bl true) H'
def pRight12 (K : PySem.W.Frag) : V → V → V → Hp → VK → XK → Prop := fun a b c H Q _ => ∃ (r : Addr) (xs : List Int) (m n : Int), a = .ref r ∧ b = .int m ∧ c = .int n ∧ SqT K H r (xs.map V.int) ∧ 1 ≤ m ∧ m ≤ 1000000000000 ∧ 0 ≤ n ∧ n ≤ 3000 ∧ 2 ≤ xs.length ∧ xs.length ≤ 1000 ∧ Rng m xs ∧ ∀ H', Same H H' → Q (.bl true) H'
theorem rulesR_len {m n : Int} {xs : List Int} {o : Option (Int × Int)} (n0 : 0 ≤ n) (n1 : n ≤ 3000) : (rulesR m xs n o).length ≤ 3000 := by
  cases o with
  | none => exact Nat.zero_le _
  | some p =>
    obtain ⟨l, s⟩ := p
    show (rulesN m xs l s (min n (m / s)).toNat).length ≤ 3000
    rw [rulesN_len]
    omega
theorem TRows.get {H : Hp} {ps : List Addr} {rs : List (List Int)} (h : TRows H ps rs) {i : Nat} {v : V} (hv : (ps.map V.ref)[i]? = some v) : ∃ p r, v = .ref p ∧ rs[i]? = some r ∧ H p = some (.tup (r.map V.int)) := by
  rw [List.getElem?_map] at hv
  cases e : ps[i]? with
  | none => rw [e] at hv; cases hv
  | some p =>
    rw [e] at hv
    cases hv
    have li := (List.getElem?_eq_some_iff.mp e).1
    have lr : i < rs.length := by rw [← h.1]; exact li
    exact ⟨p, rs[i], rfl, List.getElem?_eq_getElem lr, h.2 i p _ e (List.getElem?_eq_getElem lr)⟩
end Tw

/-! What settles a row; the number behind; a held refusal against several classes at once. -/
namespace Tw
open PySem PySem.Spec PyProof.Rows L2

/-- isinstance(e, (C1, C2, ..)), e a held exception of the class at D -/
def rIsXT (K : PySem.W.Frag) : List V → Hp → VK → Prop := fun xs H Q => ∃ (a D : Addr) (d : Option Addr) (tp : Addr) (cs : List V) (us : List Value) (b : Bool), xs = [.ref a, .ref tp] ∧ H tp = some (.tup cs) ∧ Paired ClsV cs us ∧ H a = some (exv a (.ref D) d) ∧ HasD H d ∧ XcC K D ∧ PySem.W.kitAny K (.ref D) us = some b ∧ Q (.bl b) H
theorem call_isXT {X : Cx} : CallR X (.builtin "isinstance") (rIsXT X.K) := by
  intro pins s σ H xs us Q I r h
  obtain ⟨a, D, d, tp, cs, ws, b, rfl, hT, k, ea, hd, T, e, q⟩ := h
  obtain ⟨u1, u2, rfl, r1, r2⟩ := vals2 r
  cases (show u1 = Value.ref a from r1)
  cases (show u2 = Value.ref tp from r2)
  obtain ⟨_, its, rv, o, h1, h2, n, h3⟩ := (show ObjOk X.prog X.w H s.heap tp (.tup cs) from I.hok tp _ hT)
  have e3 := ClsV.all k rv
  subst e3
  obtain ⟨oc, od', dt, sl⟩ := o
  simp only at h2 h3
  subst h2 h3
  obtain ⟨oe, od, J⟩ := inst_of I ea hd
  exact PySem.W.kia_tup (PySem.W.kitx_exc T.hc T.hg T.hk T.hs T.ha T.hn T.ht T.hm) I.kIn J h1 e (fun z => nomatch z) fun tk => ⟨.bl b, H, I.tok tk, rfl, q⟩
theorem kitAny4 {K : PySem.W.Frag} {t a b c d : Value} (ha : PySem.W.kitOne K t a = some false) (hb : PySem.W.kitOne K t b = some false) (hc : PySem.W.kitOne K t c = some false) (hd : PySem.W.kitOne K t d = some false) : PySem.W.kitAny K t [a, b, c, d] = some false := by
  unfold PySem.W.kitAny
  rw [ha]
  simp only
  unfold PySem.W.kitAny
  rw [hb]
  simp only
  unfold PySem.W.kitAny
  rw [hc]
  simp only
  unfold PySem.W.kitAny
  rw [hd]
  rfl
theorem flatI (ns : List Int) : (ns.map V.int).all flatV = true := by
  rw [List.all_map, List.all_eq_true]
  exact fun x _ => rfl
theorem eqVI (a b : Int) : eqV (.int a) (.int b) = decide (a = b) := by
  by_cases h : a = b
  · rw [h]; simp [eqV]
  · simp [eqV, h]
theorem inVI (m : Int) (ns : List Int) : inV (.int m) (ns.map V.int) = decide (m ∈ ns) := by
  unfold inV
  rw [List.any_map]
  by_cases h : m ∈ ns
  · rw [decide_eq_true h, List.any_eq_true]
    exact ⟨m, h, by show eqV (.int m) (.int m) = true; rw [eqVI]; simp⟩
  · rw [decide_eq_false h, List.any_eq_false]
    intro x hx
    show ¬ eqV (.int x) (.int m) = true
    rw [eqVI]
    simp
    exact fun e => h (e ▸ hx)
/-! ### beginnings -/
theorem gat_take {xs : List Int} {k i : Nat} (h : i + 1 < k) : gat (xs.take k) i = gat xs i := by
  unfold gat
  rw [List.getD_eq_getElem?_getD, List.getD_eq_getElem?_getD, List.getD_eq_getElem?_getD, List.getD_eq_getElem?_getD, List.getElem?_take_of_lt h, List.getElem?_take_of_lt (by omega)]
theorem fitU_take {m : Int} {xs : List Int} {k j : Nat} {t : Int} (h : j + 2 ≤ k) : FitU m (xs.take k) j t ↔ FitU m xs j t := by
  constructor
  · intro q i hi
    have := q i hi
    rw [gat_take (by omega), gat_take (by omega)] at this
    exact this
  · intro q i hi
    rw [gat_take (by omega), gat_take (by omega)]
    exact q i hi
theorem fitR_take {m : Int} {xs : List Int} {k j : Nat} {o : Option (Int × Int)} (h : j + 2 ≤ k) : FitR m (xs.take k) j o ↔ FitR m xs j o := by
  cases o with
  | none => exact ⟨fun q t ht => q t ((fitU_take h).mpr ht), fun q t ht => q t ((fitU_take h).mp ht)⟩
  | some p =>
    obtain ⟨l, s⟩ := p
    constructor
    · rintro ⟨a, b, c, d, e⟩
      exact ⟨a, b, c, d, fun t => (fitU_take h).symm.trans (e t)⟩
    · rintro ⟨a, b, c, d, e⟩
      exact ⟨a, b, c, d, fun t => (fitU_take h).trans (e t)⟩
theorem fitV_take {m : Int} {xs : List Int} {k j : Nat} {H : Hp} {v : V} (h : j + 2 ≤ k) : FitV m (xs.take k) j H v ↔ FitV m xs j H v := by
  unfold FitV
  simp only [fitR_take h]
/-- one rule alone fits the first j conditions -/
def One (m : Int) (xs : List Int) (j : Nat) : Prop := ∃ l, FitR m xs j (some (l, m))
/-- by what the row is settled -/
def Sett (m : Int) (xs : List Int) (v : V) : Prop := (v = .non ∧ (FitR m xs (xs.length - 2) none ∨ ∀ j, j ≤ xs.length - 2 → ¬ One m xs j)) ∨ ∃ j : Nat, v = .int ((j : Int) + 2) ∧ j ≤ xs.length - 2 ∧ One m xs j ∧ (∀ i, i < j → ¬ One m xs i) ∧ ¬ FitR m xs (xs.length - 2) none
theorem Sett.uniq {m : Int} {xs : List Int} {v u : V} (a : Sett m xs v) (b : Sett m xs u) : v = u := by
  rcases a with ⟨rfl, a⟩ | ⟨j, rfl, jl, o, lo, nn⟩
  · rcases b with ⟨rfl, _⟩ | ⟨j, rfl, jl, o, lo, nn⟩
    · rfl
    · rcases a with a | a
      · exact absurd a nn
      · exact absurd o (a j jl)
  · rcases b with ⟨rfl, b⟩ | ⟨j', rfl, jl', o', lo', nn'⟩
    · rcases b with b | b
      · exact absurd b nn
      · exact absurd o (b j jl)
    · have e : j = j' := by
        by_cases h : j < j'
        · exact absurd o (lo' j h)
        · by_cases h' : j' < j
          · exact absurd o' (lo j' h')
          · omega
      rw [e]
def pSettled (K : PySem.W.Frag) (CN : Addr) : V → V → Hp → VK → XK → Prop := fun a b H Q E => ∃ (r : Addr) (xs : List Int) (m : Int), a = .ref r ∧ b = .int m ∧ SqT K H r (xs.map V.int) ∧ 1 ≤ m ∧ m ≤ 1000000000000 ∧ 2 ≤ xs.length ∧ xs.length ≤ 1000 ∧
  (Rng m xs → ∀ H' v, Same H H' → Sett m xs v → Q v H') ∧ (∀ i, FirstBad m xs i → Bad CN (xs.getD i 0) H E)
/-- the number behind by times t -/
def nxB (m : Int) (xs : List Int) (t : Int) : Int := (t * xs.getD (xs.length - 1) 0 + plusOf m xs t) % m
def behV (m : Int) (xs : List Int) (l s : Int) : V := if nxB m xs l = nxB m xs (l + s) then .int (nxB m xs l) else .non
theorem nxB_eq (m : Int) (xs : List Int) (t : Int) : nxB m xs t = (t * xs.getD (xs.length - 1) 0 + xs.getD 1 0 - t * xs.getD 0 0) % m := by
  unfold nxB plusOf
  rw [Int.add_emod, Int.emod_emod, ← Int.add_emod]
  congr 1
  omega
theorem nxB_m (m : Int) (xs : List Int) (l : Int) : nxB m xs (l + m) = nxB m xs l := by
  rw [nxB_eq, nxB_eq, show (l + m) * xs.getD (xs.length - 1) 0 + xs.getD 1 0 - (l + m) * xs.getD 0 0 = l * xs.getD (xs.length - 1) 0 + xs.getD 1 0 - l * xs.getD 0 0 + m * (xs.getD (xs.length - 1) 0 - xs.getD 0 0) by grind, Int.add_mul_emod_self_left]
def pBehind (K : PySem.W.Frag) (CN CF : Addr) : V → V → Hp → VK → XK → Prop := fun a b H Q E => ∃ (r : Addr) (xs : List Int) (m : Int), a = .ref r ∧ b = .int m ∧ SqT K H r (xs.map V.int) ∧ 1 ≤ m ∧ m ≤ 1000000000000 ∧ 2 ≤ xs.length ∧ xs.length ≤ 1000 ∧
  (Rng m xs → ∀ H' l s, Same H H' → FitR m xs (xs.length - 2) (some (l, s)) → Q (behV m xs l s) H') ∧ (Rng m xs → ∀ H', Same H H' → FitR m xs (xs.length - 2) none → E (.ref CF) none H') ∧ (∀ i, FirstBad m xs i → Bad CN (xs.getD i 0) H E)
end Tw
namespace Tw
theorem idx_le : ∀ {ss : List Int} {k : Nat} {m : Int}, ss[k]? = some m → ss.idxOf m ≤ k
  | [], _, _, h => by cases h
  | a :: ss, 0, m, h => by
    cases h
    rw [List.idxOf_cons_self]
    exact Nat.le_refl _
  | a :: ss, k + 1, m, h => by
    rw [List.getElem?_cons_succ] at h
    have := idx_le h
    rw [List.idxOf_cons]
    cases (a == m)
    · show List.idxOf m ss + 1 ≤ k + 1
      omega
    · exact Nat.zero_le _
end Tw
namespace Tw
open PySem PySem.Spec PyProof.Rows L2
def pLSett (K : PySem.W.Frag) : V → V → Hp → VK → XK → Prop := fun a b H Q _ => ∃ (r : Addr) (xs : List Int) (m : Int), a = .ref r ∧ b = .int m ∧ SqT K H r (xs.map V.int) ∧ 1 ≤ m ∧ m ≤ 1000000000000 ∧ Rng m xs ∧ 2 ≤ xs.length ∧ xs.length ≤ 1000 ∧ ∀ H' v, Same H H' → Sett m xs v → Q v H'
def pLNext (K : PySem.W.Frag) : V → V → V → Hp → VK → XK → Prop := fun a b c H Q _ => ∃ (r : Addr) (xs : List Int) (m t : Int), a = .ref r ∧ b = .int m ∧ c = .int t ∧ SqT K H r (xs.map V.int) ∧ 1 ≤ m ∧ m ≤ 1000000000000 ∧ Rng m xs ∧ 2 ≤ xs.length ∧ 0 ≤ t ∧ t ≤ 2000000000000 ∧ Q (.int (nxB m xs t)) H
def pNoFit (K : PySem.W.Frag) : V → V → Hp → VK → XK → Prop := fun a b H Q _ => ∃ (r : Addr) (xs : List Int) (m : Int), a = .ref r ∧ b = .int m ∧ SqT K H r (xs.map V.int) ∧ 1 ≤ m ∧ m ≤ 1000000000000 ∧ Rng m xs ∧ 2 ≤ xs.length ∧ xs.length ≤ 1000 ∧ FitR m xs (xs.length - 2) none ∧ ∀ H', Same H H' → Q (.bl true) H'
theorem at_last {xs : List Int} (h : 1 ≤ xs.length) : atI (xs.map V.int) (-1) = some (.int (xs.getD (xs.length - 1) 0)) := by
  have ne : xs ≠ [] := fun z => by rw [z] at h; exact absurd h (by simp)
  have e1 : xs.getD (xs.length - 1) 0 = xs.getLast ne := by
    rw [get_D (List.getElem?_eq_getElem (show xs.length - 1 < xs.length by omega)), List.getLast_eq_getElem]
  rw [e1]
  conv => lhs; rw [← List.dropLast_concat_getLast ne]
  rw [List.map_append]
  exact atI_last _ _
end Tw

/-! One more number behind a row; rules told against the row. -/
namespace Tw
open PySem PySem.Spec PyProof.Rows L2

theorem getD_snoc_l {xs : List Int} {y : Int} {i : Nat} (h : i < xs.length) : (xs ++ [y]).getD i 0 = xs.getD i 0 := by
  rw [List.getD_eq_getElem?_getD, List.getD_eq_getElem?_getD, List.getElem?_append_left h]
theorem getD_snoc_r {xs : List Int} {y : Int} : (xs ++ [y]).getD xs.length 0 = y := by
  rw [List.getD_eq_getElem?_getD, List.getElem?_append_right (Nat.le_refl _), Nat.sub_self]
  rfl
theorem plus_snoc {m : Int} {xs : List Int} {y t : Int} (h : 2 ≤ xs.length) : plusOf m (xs ++ [y]) t = plusOf m xs t := by
  unfold plusOf
  rw [getD_snoc_l (by omega), getD_snoc_l (by omega)]
/-- one more number: the times that fit and lead on to it -/
theorem fit_snoc {m : Int} {xs : List Int} {y t : Int} (m0 : 0 < m) (rg : Rng m xs) (y0 : 0 ≤ y) (y1 : y < m) (h : 2 ≤ xs.length) : FitU m (xs ++ [y]) (xs.length - 1) t ↔ FitU m xs (xs.length - 2) t ∧ nxB m xs t = y := by
  have rg' : Rng m (xs ++ [y]) := rng_snoc rg ⟨y0, y1⟩
  rw [← step_iff m0 rg' t, ← step_iff m0 rg t]
  constructor
  · intro q
    constructor
    · intro i hi
      have := q i (by omega)
      rw [plus_snoc h, getD_snoc_l (by omega), getD_snoc_l (by omega)] at this
      exact this
    · have := q (xs.length - 1) (by omega)
      rw [plus_snoc h, getD_snoc_l (by omega), show xs.length - 1 + 1 = xs.length by omega, getD_snoc_r] at this
      exact this
  · rintro ⟨q, e⟩ i hi
    rw [plus_snoc h]
    by_cases ei : i = xs.length - 1
    · subst ei
      rw [getD_snoc_l (by omega), show xs.length - 1 + 1 = xs.length by omega, getD_snoc_r]
      exact e
    · rw [getD_snoc_l (by omega), getD_snoc_l (by omega)]
      exact q i (by omega)
theorem nxB_rng {m : Int} (m0 : 0 < m) (xs : List Int) (t : Int) : 0 ≤ nxB m xs t ∧ nxB m xs t < m := mod_bd _ m0
/-- steps that lead to the same number do so always -/
theorem nxB_all {m : Int} {xs : List Int} {l s : Int} (e : nxB m xs l = nxB m xs (l + s)) (c : Int) : nxB m xs (l + c * s) = nxB m xs l := by
  rw [nxB_eq, nxB_eq] at e ⊢
  have h := Int.emod_eq_emod_iff_emod_sub_eq_zero.mp e
  have hd := Int.dvd_of_emod_eq_zero h
  refine Int.emod_eq_emod_iff_emod_sub_eq_zero.mpr (Int.emod_eq_zero_of_dvd ?_)
  have := Int.dvd_trans hd (Int.dvd_mul_left (-c) _)
  rw [show -c * (l * xs.getD (xs.length - 1) 0 + xs.getD 1 0 - l * xs.getD 0 0 - ((l + s) * xs.getD (xs.length - 1) 0 + xs.getD 1 0 - (l + s) * xs.getD 0 0)) = (l + c * s) * xs.getD (xs.length - 1) 0 + xs.getD 1 0 - (l + c * s) * xs.getD 0 0 - (l * xs.getD (xs.length - 1) 0 + xs.getD 1 0 - l * xs.getD 0 0) by grind] at this
  exact this
theorem fitR_in {m : Int} {xs : List Int} {k : Nat} {l s : Int} (F : FitR m xs k (some (l, s))) (c : Int) : FitU m xs k (l + c * s) := (F.2.2.2.2 _).mpr ⟨c, by grind⟩
theorem fitR_l {m : Int} {xs : List Int} {k : Nat} {l s : Int} (F : FitR m xs k (some (l, s))) : FitU m xs k l := (F.2.2.2.2 _).mpr (by rw [Int.sub_self]; exact Int.dvd_zero s)
/-- what fits more conditions is a part of what fits fewer -/
theorem fit_sub {m : Int} {xs ys : List Int} {j k : Nat} {l s l' s' : Int} (F : FitR m xs k (some (l, s))) (F' : FitR m ys j (some (l', s'))) (h : ∀ t, FitU m xs k t → FitU m ys j t) : s' ∣ s ∧ s' ∣ l - l' := by
  have e1 := (F'.2.2.2.2 l).mp (h _ (fitR_l F))
  have e2 := (F'.2.2.2.2 (l + 1 * s)).mp (h _ (fitR_in F 1))
  refine ⟨?_, e1⟩
  have := Int.dvd_sub e2 e1
  rw [show l + 1 * s - l' - (l - l') = s by omega] at this
  exact this
/-- behind: the same number by all -/
theorem fit_behind {m : Int} {xs : List Int} {l s : Int} (m0 : 0 < m) (rg : Rng m xs) (h : 2 ≤ xs.length) (F : FitR m xs (xs.length - 2) (some (l, s))) (e : nxB m xs l = nxB m xs (l + s)) : FitR m (xs ++ [nxB m xs l]) (xs.length - 1) (some (l, s)) := by
  have nr := nxB_rng m0 xs l
  refine ⟨F.1, F.2.1, F.2.2.1, F.2.2.2.1, fun t => ?_⟩
  rw [fit_snoc m0 rg nr.1 nr.2 h, F.2.2.2.2 t]
  constructor
  · exact fun q => q.1
  · intro q
    refine ⟨q, ?_⟩
    obtain ⟨c, hc⟩ := q
    rw [show t = l + c * s by grind]
    exact nxB_all e c
theorem fit_other {m : Int} {xs : List Int} {l s y : Int} (m0 : 0 < m) (rg : Rng m xs) (h : 2 ≤ xs.length) (F : FitR m xs (xs.length - 2) (some (l, s))) (e : nxB m xs l = nxB m xs (l + s)) (y0 : 0 ≤ y) (y1 : y < m) (ny : y ≠ nxB m xs l) : FitR m (xs ++ [y]) (xs.length - 1) none := fun t ht => by
  obtain ⟨a, b⟩ := (fit_snoc m0 rg y0 y1 h).mp ht
  obtain ⟨c, hc⟩ := (F.2.2.2.2 t).mp a
  rw [show t = l + c * s by grind, nxB_all e c] at b
  exact ny b.symm
theorem fit_fewer {m : Int} {xs : List Int} {l s l' s' : Int} (m0 : 0 < m) (rg : Rng m xs) (h : 2 ≤ xs.length) (F : FitR m xs (xs.length - 2) (some (l, s))) (e : nxB m xs l ≠ nxB m xs (l + s)) (F' : FitR m (xs ++ [nxB m xs l]) (xs.length - 1) (some (l', s'))) : s < s' ∧ s' % s = 0 := by
  have nr := nxB_rng m0 xs l
  obtain ⟨d, _⟩ := fit_sub F' F (fun t ht => ((fit_snoc m0 rg nr.1 nr.2 h).mp ht).1)
  have le : s ≤ s' := Int.le_of_dvd F'.1 d
  refine ⟨?_, Int.emod_eq_zero_of_dvd d⟩
  by_cases z : s < s'
  · exact z
  · have es : s' = s := by omega
    subst es
    have hl : FitU m (xs ++ [nxB m xs l]) (xs.length - 1) l := (fit_snoc m0 rg nr.1 nr.2 h).mpr ⟨fitR_l F, rfl⟩
    have h1 := (F'.2.2.2.2 l).mp hl
    have h2 : FitU m (xs ++ [nxB m xs l]) (xs.length - 1) (l + s') := (F'.2.2.2.2 _).mpr (by
      rw [show l + s' - l' = l - l' + s' by omega]
      exact Int.dvd_add h1 (Int.dvd_refl s'))
    exact absurd ((fit_snoc m0 rg nr.1 nr.2 h).mp h2).2.symm e
/-- the row by a rule that fits -/
theorem row_of_fit {m : Int} {xs : List Int} {t : Int} (m0 : 0 < m) (rg : Rng m xs) (h : 2 ≤ xs.length) (F : FitU m xs (xs.length - 2) t) : orb (stp t (plusOf m xs t) m) xs.length (xs.getD 0 0) = xs := by
  have st := (step_iff m0 rg t (xs.length - 2)).mpr F
  have it : ∀ i, i < xs.length → itr (stp t (plusOf m xs t) m) i (xs.getD 0 0) = xs.getD i 0 := by
    intro i
    induction i with
    | zero => exact fun _ => rfl
    | succ i ih =>
      intro hi
      show stp t (plusOf m xs t) m (itr (stp t (plusOf m xs t) m) i (xs.getD 0 0)) = _
      rw [ih (by omega)]
      exact st i (by omega)
  refine List.ext_getElem? fun i => ?_
  by_cases hi : i < xs.length
  · unfold orb
    rw [List.getElem?_map, List.getElem?_range hi]
    show some (itr (stp t (plusOf m xs t) m) i (xs.getD 0 0)) = _
    rw [it i hi, List.getElem?_eq_getElem hi, get_D (List.getElem?_eq_getElem hi)]
  · rw [List.getElem?_eq_none (by rw [orb_len]; omega), List.getElem?_eq_none (by omega)]
theorem one_mono {m : Int} {xs : List Int} {j k : Nat} {l s : Int} (m0 : 0 < m) (hj : j ≤ k) (O : One m xs j) (F : FitR m xs k (some (l, s))) : s = m := by
  obtain ⟨l', F'⟩ := O
  obtain ⟨d, _⟩ := fit_sub F F' (fun t ht => fitU_mono ht hj)
  exact Int.dvd_antisymm (by have := F.1; omega) (by omega) F.2.1 d
def pRulesR (K : PySem.W.Frag) : V → V → V → Hp → VK → XK → Prop := fun a b c H Q _ => ∃ (r f : Addr) (xs : List Int) (m l s : Int), a = .ref r ∧ b = .int m ∧ c = .ref f ∧ H r = some (.tup (xs.map V.int)) ∧ H f = some (.tup [.int l, .int s]) ∧ 1 ≤ m ∧ m ≤ 1000000000000 ∧ Rng m xs ∧ 2 ≤ xs.length ∧ xs.length ≤ 1000 ∧ FitR m xs (xs.length - 2) (some (l, s)) ∧ ∀ H', Same H H' → Q (.bl true) H'
def pBehR (K : PySem.W.Frag) : V → V → V → V → Hp → VK → XK → Prop := fun e a b c H Q _ => ∃ (d r f : Addr) (n : Nat) (xs : List Int) (m l s : Int), e = .ref d ∧ a = .ref r ∧ b = .int m ∧ c = .ref f ∧ Seed H d n ∧ n + 10 ≤ 100000000 ∧ H r = some (.tup (xs.map V.int)) ∧ H f = some (.tup [.int l, .int s]) ∧ 1 ≤ m ∧ m ≤ 1000000000000 ∧ Rng m xs ∧ 2 ≤ xs.length ∧ xs.length ≤ 900 ∧ FitR m xs (xs.length - 2) (some (l, s)) ∧ ∀ H', But d H H' → Q (.bl true) H'
end Tw

/-! Calls by keywords alone; refusals made by hand: held with their text, or with their number. -/
namespace Tw
open PySem PySem.Spec PyProof.Rows L2
/-! ### f(k = v, ..) -/
/-- how a def of plain parameters binds keywords alone -/
def KwOf (K : PySem.W.Frag) (mg : Str → Option Value) (x : Str) (ps ks : List Str) (g : List Value → List Value → List Value) (gV : List V → List V → List V) : Prop := ∃ (f : Addr) (fd : FuncData), mg x = some (.ref f) ∧ Lk K f fd ∧ KBinds K fd ps ks g gV
theorem Top.kw {K : PySem.W.Frag} {mg : Str → Option Value} {x : Str} {st : Stmt} {ps ks : List Str} {g : List Value → List Value → List Value} {gV : List V → List V → List V} (D : Top K mg x st ps)
    (hb : ∀ (kV doc pm : Value) (an : Option Addr) (cdv ct : Value) (us ws : List Value), (g us ws).length = ps.length → bindArgs (PySem.W.fnOf x x (defArgs st) (defBody st) (defScope st) .none kV doc pm an cdv ct) ⟨us, ks.zip ws⟩ = pure (ps.zip (g us ws)))
    (rel : ∀ {vs : List V} {us : List Value} {zs : List V} {ws : List Value}, Vals vs us → Vals zs ws → Vals (gV vs zs) (g us ws)) : KwOf K mg x ps ks g gV := by
  obtain ⟨f, fd, F, m, _⟩ := D
  have lk := lk_of F
  obtain ⟨oc, od, kV, doc, pm, an, cdv, ct, osl, rfl, _, _⟩ := F.ex
  exact ⟨f, _, m, lk, ⟨fun s us ws _ hl => .of_eq (hb kV doc pm an cdv ct us ws hl), rel⟩⟩
/-! the keywords' order turned -/
def g1 {α : Type} : List α → List α → List α
  | [], [a] => [a]
  | _, _ => []
def g2 {α : Type} : List α → List α → List α
  | [], [a, b] => [b, a]
  | _, _ => []
def g3 {α : Type} : List α → List α → List α
  | [], [a, b, c] => [c, b, a]
  | _, _ => []
theorem g1_inv {α : Type} {us ws : List α} (h : (g1 us ws).length = 1) : ∃ a, us = [] ∧ ws = [a] := by
  unfold g1 at h
  split at h
  · exact ⟨_, rfl, rfl⟩
  · cases h
theorem g2_inv {α : Type} {us ws : List α} (h : (g2 us ws).length = 2) : ∃ a b, us = [] ∧ ws = [a, b] := by
  unfold g2 at h
  split at h
  · exact ⟨_, _, rfl, rfl⟩
  · cases h
theorem g3_inv {α : Type} {us ws : List α} (h : (g3 us ws).length = 3) : ∃ a b c, us = [] ∧ ws = [a, b, c] := by
  unfold g3 at h
  split at h
  · exact ⟨_, _, _, rfl, rfl⟩
  · cases h
theorem g1_rel {vs : List V} {us : List Value} {zs : List V} {ws : List Value} (a : Vals vs us) (b : Vals zs ws) : Vals (g1 vs zs) (g1 us ws) := by
  cases a with
  | nil =>
    cases b with
    | nil => exact .nil
    | cons r1 t1 =>
      cases t1 with
      | nil => exact .cons r1 .nil
      | cons r2 t2 => exact .nil
  | cons r t => exact .nil
theorem g2_rel {vs : List V} {us : List Value} {zs : List V} {ws : List Value} (a : Vals vs us) (b : Vals zs ws) : Vals (g2 vs zs) (g2 us ws) := by
  cases a with
  | nil =>
    cases b with
    | nil => exact .nil
    | cons r1 t1 =>
      cases t1 with
      | nil => exact .nil
      | cons r2 t2 =>
        cases t2 with
        | nil => exact .cons r2 (.cons r1 .nil)
        | cons r3 t3 => exact .nil
  | cons r t => exact .nil
theorem g3_rel {vs : List V} {us : List Value} {zs : List V} {ws : List Value} (a : Vals vs us) (b : Vals zs ws) : Vals (g3 vs zs) (g3 us ws) := by
  cases a with
  | nil =>
    cases b with
    | nil => exact .nil
    | cons r1 t1 =>
      cases t1 with
      | nil => exact .nil
      | cons r2 t2 =>
        cases t2 with
        | nil => exact .nil
        | cons r3 t3 =>
          cases t3 with
          | nil => exact .cons r3 (.cons r2 (.cons r1 .nil))
          | cons r4 t4 => exact .nil
  | cons r t => exact .nil
/-! ### text * n -/
def rMulS : R2 := fun x y H Q => ∃ (a : Str) (i : Int), x = .str a ∧ y = .int i ∧ MulOk a i ∧ Q (.str (Txt.mul a i)) H
theorem op_mulS {X : Cx} : OpR X (binaryOp .Mult) rMulS := by
  intro pins s σ H x y u v Q I r1 r2 h
  obtain ⟨a, i, rfl, rfl, ok, q⟩ := h
  obtain ⟨t1, rfl⟩ := r1
  obtain ⟨t2, rfl⟩ := r2
  exact PySem.SB.mul ok fun t' k => ⟨.str (Txt.mul a i), H, I.tok _, ⟨t', rfl⟩, q⟩
section
variable {X : Cx} {CX : CXT} {k : Nat} {ps ks : List Str} {sp : Sp} {E : XK} {x : Str} {p pos : Pos} {kws : List Keyword} {tk : TA} {g : List Value → List Value → List Value} {gV : List V → List V → List V}
theorem pe_kw (h : Has X.prog X.w X.K X.mg X.base CX k x ps sp) (b : KwOf X.K X.mg x ps ks g gV) (hr : Room k X.A) (hx : Passes CX X E) (hkw : PK X kws tk) (hg : Gl X x := by rfl) (hall : (backToKw pos (keywordEach kws X.env)).all (·.1.isSome) = true := by rfl)
    (hks : (backToKw pos (keywordEach kws X.env)).filterMap (·.1) = ks := by rfl) (hdb : (x == ("__debug__" : Str)) = false := by decide)
    (hpl : ((backTo pos (starEach [] X.env)).any (·.1) || (backToKw pos (keywordEach kws X.env)).any (·.1.isNone)) = false := by rfl) :
    PE X (.Call (.Name x p) [] kws pos) (tCallK sp gV E tNil tk) := by
  obtain ⟨f, fd, F, m, kp, _, lk⟩ := h
  obtain ⟨f', fd', m', lk', kb⟩ := b
  obtain rfl : f = f' := by
    have z := m.symm.trans m'
    cases z
    rfl
  obtain rfl := lk.eq lk'
  refine ⟨fun pins s σ H Q I q => wpAny_Call_Name_kw (ld_glob I hg m ?_ hdb)⟩
  refine PySem.W.callWith_KW0 (h₀ := X.base) I.ok.mod.kin kp hall (thn (hkw.run pos pins s σ H _ I q) fun ws s2 y => ?_) hpl
  obtain ⟨zs, H2, I2, rz, q2⟩ := y
  refine ⟨I2.kIn, ?_⟩
  rw [hks]
  exact run_fnk F hr kb hx I2 .nil rz q2
end
/-! ### X(text), held with its text -/
def exm (a C t : Addr) : HO := .ext fun h => ∃ (oe : Obj) (vs : Array Value), h.get? a = some oe ∧ (oe.cls = .ref C ∧ oe.dict = none) ∧ oe.data = .fields vs ∧ vs[0]? = some (.ref t)
theorem exm_ok {P : Program} {w : World} {H : Hp} {h : Heap} {a C t : Addr} {oe : Obj} {vs : Array Value} (e : h.get? a = some oe) (c : oe.cls = .ref C ∧ oe.dict = none) (d : oe.data = .fields vs) (z : vs[0]? = some (.ref t)) : ObjOk P w H h a (exm a C t) :=
  ⟨⟨oe, vs, e, c, d, z⟩, ⟨oe, e⟩, fun _ _ y k => by
    obtain ⟨o, v, q, r⟩ := y
    exact ⟨o, v, k o q, r⟩⟩
theorem exm_at {P : Program} {w : World} {H : Hp} {h : Heap} {a C t : Addr} (hok : HOk P w H h) (e : H a = some (exm a C t)) : ∃ (oe : Obj) (vs : Array Value), h.get? a = some oe ∧ (oe.cls = .ref C ∧ oe.dict = none) ∧ oe.data = .fields vs ∧ vs[0]? = some (.ref t) := by
  have x : ObjOk P w H h a (.ext fun h => ∃ (oe : Obj) (vs : Array Value), h.get? a = some oe ∧ (oe.cls = .ref C ∧ oe.dict = none) ∧ oe.data = .fields vs ∧ vs[0]? = some (.ref t)) := hok a _ e
  exact x.1
theorem pe_exm {X : Cx} {C : Addr} {bmB : List Value} {B newId initId : String} {x : Str} {e : Expr} {ta : TE} {p pos : Pos} (F : ExcBaseFacts B newId initId bmB) (q : PySem.W.excIn X.K C bmB newId = true) (gC : X.mg x = some (.ref C)) (kC : PySem.W.keepIn X.K (.ref C) = true)
    (he : PE X e ta) (hg : Gl X x := by rfl) (hs : starEach [e] X.env = (false, eval e X.env) :: starEach [] X.env := by rfl) (hdb : (x == ("__debug__" : Str)) = false := by decide) :
    PE X (.Call (.Name x p) [e] [] pos) (fun σ H Q => ta σ H fun v H1 => ∀ a t, H1 a = none → H1 t = none → a ≠ t → Q (.ref a) (upd (upd H1 t (.tup [v])) a (exm a C t))) := by
  refine ⟨fun pins s σ H Q I y => wpAny_Call_Name_kw (ld_glob I hg gC ?_ hdb)⟩
  refine PySem.W.callWith_K (h₀ := X.base) I.ok.mod.kin kC ?_ hs (by rfl)
  rw [hs]
  show wpAny _ _ (spliced ((false, eval e X.env) :: backTo pos (starEach [] X.env))) _ _ s
  refine Calls.spliced_cons (thn (he.run pins s σ H _ I y) fun u s1 z => ?_)
  obtain ⟨v, H1, I1, r1, q1⟩ := z
  refine Calls.spliced_nil ⟨I1.kIn, ?_⟩
  show wpAny _ _ (call (.ref C) [u]) _ _ _
  obtain ⟨bm, N, nm, qn, bs, hdct, sn, sub, ab, col, dd, k0, k1, k2, k3, k5, mN, hC, hN, hni, T⟩ := exc_obj I1.kIn q
  refine wpAny_call_exc_subT F T hC hN hni (fun h' a hm => ?_) (by show 1 ≤ sizeLine; decide)
  obtain ⟨t, ht, tn, tt⟩ := hm.there
  have at_ : a ≠ t := fun z => by
    rw [z, tt] at ht
    cases ht
  have na : H1 a = none := I1.hok.gone hm.new
  have nt : H1 t = none := I1.hok.gone tn
  obtain ⟨G, g1, g2⟩ := restrict h' fun b => decide (b ≠ a)
  have gk : ∀ b o, b ≠ a → h'.get? b = some o → G.get? b = some o := fun b o hb e => (g1 b (decide_eq_true hb)).trans e
  have ga : G.get? a = none := g2 a (decide_eq_false fun z => z rfl)
  have I2 : Inv X pins σ (upd H1 t (.tup [v])) { s1 with heap := G, toks := s1.toks } := I1.laidN (fun b o e => gk b o (fun z => by rw [z, hm.new] at e; cases e) (hm.keeps b o e)) tn nt ⟨by show 1 ≤ sizeLine; decide, [u], .cons r1 .nil, ⟨_, gk _ _ (Ne.symm at_) tt, rfl, _, rfl⟩⟩
  have na2 : (upd H1 t (.tup [v])) a = none := by rw [upd_ne at_]; exact na
  have I3 : Inv X pins σ (upd (upd H1 t (.tup [v])) a (exm a C t)) { s1 with heap := h', toks := s1.toks } := I2.laidN (h' := h') (t' := s1.toks) (fun b o e => by
    by_cases z : b = a
    · rw [z] at e
      rw [show G.get? a = none from ga] at e
      cases e
    · exact (g1 b (decide_eq_true z)).symm.trans e) ga na2 (exm_ok ht ⟨rfl, rfl⟩ rfl rfl)
  exact ⟨.ref a, _, I3, rfl, q1 a t na nt at_⟩
/-! ### str(e) -/
def rStrX (K : PySem.W.Frag) : List V → Hp → VK → Prop := fun xs H Q => ∃ (a C t : Addr) (m : Str), xs = [.ref a] ∧ H a = some (exm a C t) ∧ H t = some (.tup [.str m]) ∧ PySem.W.findIn K (.ref C) "__str__" = some (some (.builtin "BaseException.__str__")) ∧ PySem.W.subIn K (.ref C) (.type "BaseException") = some true ∧ Q (.str m) H
theorem call_strX {X : Cx} {k : Nat} (hr : Room k X.A) : CallR X (.type "str") (rStrX X.K) := by
  intro pins s σ H xs us Q I r h
  obtain ⟨a, C, t, m, rfl, ea, et, hs, hB, q⟩ := h
  obtain ⟨u, rfl, ru⟩ := r.one
  cases (show u = Value.ref a from ru)
  obtain ⟨oe, vs, ho, hc, hd, h0⟩ := exm_at I.hok ea
  obtain ⟨_, its, rv, tp⟩ := (show ObjOk X.prog X.w H s.heap t (.tup [.str m]) from I.hok t _ et)
  obtain ⟨w, rfl, rw'⟩ := rv.one
  obtain ⟨tk, rfl⟩ := rw'
  have tup : s.heap.TupAt t [.str m tk] := by
    obtain ⟨o, e1, e2, n, e3⟩ := tp
    exact ⟨o, n, e1, e2, e3⟩
  exact PySem.P.str_of_C_one (by have := hr.units; omega) ⟨I.kIn, oe, vs, ho, hc.1, hd, h0⟩ tup hs hB ⟨.str m, H, I.tok _, ⟨tk, rfl⟩, q⟩
/-! ### X(number) by its own initialiser, held -/
def tMkV (C : Addr) (sp : Sp) (ta : TA) : TE := fun σ H Q => ta σ H fun vs H1 => vs.length ≤ 1000 ∧ ∀ a, H1 a = none → sp (.ref a :: vs) (upd H1 a (exo a C none)) (fun v H2 => v = .non ∧ Q (.ref a) H2) (fun _ _ _ => False)
theorem pe_oexV {X : Cx} {CX : CXT} {x : Str} {C fI : Addr} {k : Nat} {fd : FuncData} {ps : List Str} {sp : Sp} {e : Expr} {es : List Expr} {ta : TA} {p pos : Pos} (T : OexC X.K C) (iC : PySem.W.findIn X.K (.ref C) "__init__" = some (some (.ref fI))) (tI : PySem.W.typeIn X.K (.ref fI) = some (.type "function"))
    (F1 : FnOk X.prog X.w X.K X.mg X.base CX k fI fd ps sp) (hr : Room (k + 1) X.A) (hb : Binds X.K fd ps []) (hx : Passes CX X (fun _ _ _ => False)) (hm : X.mg x = some (.ref C)) (ha : PA X (e :: es) ta) (hg : Gl X x := by rfl)
    (hdb : (x == ("__debug__" : Str)) = false := by decide) (he : starEach (e :: es) X.env = (false, eval e X.env) :: starEach es X.env := by rfl) (hpl : (backTo pos (starEach es X.env)).any (·.1) = false := by rfl) :
    PE X (.Call (.Name x p) (e :: es) [] pos) (tMkV C sp ta) := by
  refine ⟨fun pins s σ H Q I h => wpAny_Call_Name_kw (ld_glob I hg hm ?_ hdb)⟩
  obtain ⟨nm, q, N, bs, bm, sn, sub, ab, col, dd, k0, k1, k2, k3, k5, hC, hbm⟩ := T.cls
  refine PySem.W.callWith_K (h₀ := X.base) I.ok.mod.kin T.kC (thn (ha.run pos pins s σ H _ I h) fun us s1 y => ?_) he hpl
  obtain ⟨vs, H1, I1, r1, hz, q1⟩ := y
  refine ⟨I1.kIn, ?_⟩
  show wpAny _ _ (call (.ref C) us) _ _ _
  obtain ⟨hp, gs, dr, tk, os⟩ := s1
  have le1 : hp.objs.size ≤ hp.objs.size + 1 := Nat.le_succ _
  have hn : H1 (hp.objs.size + 1) = none := I1.hok.fresh le1
  have hq := q1 (hp.objs.size + 1) hn
  have hget : ((hp.push (PySem.W.kdv_tup us)).push (PySem.HandSPX.excO C hp.objs.size)).get? (hp.objs.size + 1) = some (PySem.HandSPX.excO C hp.objs.size) := by heap_get
  have I2 := I1.laid (t' := tk) (a := hp.objs.size + 1) (o := exo (hp.objs.size + 1) C none) (h' := (hp.push (PySem.W.kdv_tup us)).push (PySem.HandSPX.excO C hp.objs.size)) (fun b o e => Heap.get?_push_of_some _ (Heap.get?_push_of_some _ e)) le1 (exo_ok hget)
  have r2 : Vals (V.ref (hp.objs.size + 1) :: vs) (Value.ref (hp.objs.size + 1) :: us) := .cons rfl r1
  have hl : (Value.ref (hp.objs.size + 1) :: us ++ []).length = ps.length := by
    have z := r2.length
    rw [F1.len _ _ _ _ hq] at z
    rw [List.append_nil]
    exact z.symm
  have b2 := hb ⟨(hp.push (PySem.W.kdv_tup us)).push (PySem.HandSPX.excO C hp.objs.size), gs, dr, tk, os⟩ (Value.ref (hp.objs.size + 1) :: us) I2.kIn hl
  rw [List.append_nil] at b2
  have hus : us.length ≤ sizeLine := by
    rw [← Paired.length r1]
    exact sz (by omega)
  refine wpAny_call (PySem.HandSPX.call_own F.excBase_ValueError (fun Y => PySem.HandSPX.refsVE_contains Y bm hbm) (I1.kIn _ _ hC) (PySem.W.looks_findIn I1.kIn iC) (fun self => PySem.W.bind_fn I1.kIn self tI) hus
    (codeAny_mono (F1.run _ X.stack _ _ ⟨Value.ref (hp.objs.size + 1) :: us, []⟩ _ _ _ (fun _ _ _ => False) (hr.make C us []) (I2.env0.make C us []) b2 r2 hq) fun r s' y => ?_))
  cases r with
  | error er => exact hx pins σ _ _ er s' I2 y
  | ok fl =>
    cases fl with
    | ret u =>
      obtain ⟨v, H', I3, rv, ev, q3⟩ := I2.after y
      subst ev
      exact ⟨rv, .ref (hp.objs.size + 1), H', I3, rfl, q3⟩
    | next => exact y.elim
    | brk => exact y.elim
    | cont => exact y.elim
/-! ### a held refusal: its class asked, its field read -/
def Held (H : Hp) (a D : Addr) : Prop := (∃ t, H a = some (exm a D t)) ∨ ∃ (d : Addr) (fs : List (Str × V)), H a = some (exo a D (some d)) ∧ H d = some (exd d fs)
theorem held_inst {X : Cx} {pins : List (Addr × Obj)} {σ : L2.St} {H : Hp} {s : Shared} {a D : Addr} (I : Inv X pins σ H s) (h : Held H a D) : ∃ oe od, PySem.W.InstAt s.heap a oe D od := by
  rcases h with ⟨t, e⟩ | ⟨d, fs, e, ed⟩
  · obtain ⟨oe, vs, ho, hc, hd, _⟩ := exm_at I.hok e
    exact ⟨oe, none, ho, hc.1, by unfold PySem.W.notCls; rw [hd] <;> rfl, by rw [hc.2]; trivial⟩
  · obtain ⟨t1, ho⟩ := exo_at I.hok e
    obtain ⟨mA, hns, _⟩ := exd_at I.hok ed
    obtain ⟨od, hd, _⟩ := lookIn_ns hns
    exact ⟨_, some od, ho, rfl, rfl, hd⟩
def rIsH (K : PySem.W.Frag) : List V → Hp → VK → Prop := fun xs H Q => ∃ (a D : Addr) (c : V) (u : Value) (b : Bool), xs = [.ref a, c] ∧ ClsV c u ∧ Held H a D ∧ XcC K D ∧ PySem.W.kitOne K (.ref D) u = some b ∧ Q (.bl b) H
theorem call_isH {X : Cx} : CallR X (.builtin "isinstance") (rIsH X.K) := by
  intro pins s σ H xs us Q I r h
  obtain ⟨a, D, c, u, b, rfl, k, hh, T, e, q⟩ := h
  obtain ⟨u1, u2, rfl, r1, r2⟩ := vals2 r
  cases (show u1 = Value.ref a from r1)
  have e2 := k.eq r2
  subst e2
  obtain ⟨oe, od, J⟩ := held_inst I hh
  exact PySem.W.kia_one (PySem.W.kitx_exc T.hc T.hg T.hk T.hs T.ha T.hn T.ht T.hm) I.kIn J e (fun z => nomatch z) fun tk => ⟨.bl b, H, I.tok tk, rfl, q⟩
def tHv (K : PySem.W.Frag) (f : Str) (te : TE) : TE := fun σ H Q => te σ H fun x H1 => ∃ (a C dd : Addr) (fs : List (Str × V)) (v : V), x = .ref a ∧ H1 a = some (exo a C (some dd)) ∧ XcC K C ∧ PySem.W.findIn K (.ref C) f = some none ∧ H1 dd = some (exd dd fs) ∧ fs.lookup f = some v ∧ Q v H1
theorem pe_hv {X : Cx} {e : Expr} {te : TE} {pos : Pos} {n : Str} (he : PE X e te) (hb : attributeBase e n X.env (eval e X.env) = eval e X.env := by rfl) : PE X (.Attribute e n pos) (tHv X.K n te) := by
  refine ⟨fun pins s σ H Q I h => attr_of hb (thn (he.run pins s σ H _ I h) fun u s1 hh => ?_)⟩
  obtain ⟨x, H1, I1, rx, a, C, dd, fs, v, ex, ea, T, hno, ed, l, q⟩ := hh
  subst ex
  obtain rfl : u = Value.ref a := rx
  obtain ⟨t1, ha⟩ := exo_at I1.hok ea
  obtain ⟨mA, hns, hr⟩ := exd_at I1.hok ed
  obtain ⟨od, ho, hl⟩ := lookIn_ns hns
  obtain ⟨u, hu, ru⟩ := RelO.some_of (v := v) (o := mA n) (by rw [← l]; exact hr n)
  have J : PySem.W.InstAt s1.heap a _ C (some od) := ⟨ha, rfl, rfl, ho⟩
  exact HandSPX.exc_get I1.kIn J T.hg T.hk T.hs (PySem.W.findObj_own T.hd hno rfl (by rw [hl, hu])) (handed_of ru) ⟨v, H1, I1.tok _, ru, q⟩
end Tw

/-! Refusals, caught or made by hand, asked alike; a def of no arguments. -/
namespace Tw
open PySem PySem.Spec PyProof.Rows L2

/-- an exception of the class at D: held by hand or caught -/
def ExcAt (H : Hp) (a D : Addr) : Prop := Held H a D ∨ ∃ d, H a = some (exv a (.ref D) d) ∧ HasD H d
theorem ExcAt.same {H H' : Hp} {a D : Addr} (h : ExcAt H a D) (s : Same H H') : ExcAt H' a D := by
  rcases h with (⟨t, e⟩ | ⟨d, fs, e, ed⟩) | ⟨d, e, hd⟩
  · exact .inl (.inl ⟨t, s _ _ e⟩)
  · exact .inl (.inr ⟨d, fs, s _ _ e, s _ _ ed⟩)
  · refine .inr ⟨d, s _ _ e, fun dx z => ?_⟩
    obtain ⟨fs, q⟩ := hd dx z
    exact ⟨fs, s _ _ q⟩
def rIsE (K : PySem.W.Frag) : List V → Hp → VK → Prop := fun xs H Q => ∃ (a D : Addr) (c : V) (u : Value) (b : Bool), xs = [.ref a, c] ∧ ClsV c u ∧ ExcAt H a D ∧ XcC K D ∧ PySem.W.kitOne K (.ref D) u = some b ∧ Q (.bl b) H
theorem call_isE {X : Cx} : CallR X (.builtin "isinstance") (rIsE X.K) := by
  intro pins s σ H xs us Q I r h
  obtain ⟨a, D, c, u, b, e, k, hh, T, kb, q⟩ := h
  rcases hh with hh | ⟨d, ea, hd⟩
  · exact call_isH pins s σ H xs us Q I r ⟨a, D, c, u, b, e, k, hh, T, kb, q⟩
  · exact call_isX pins s σ H xs us Q I r ⟨a, D, d, c, u, b, e, k, ea, hd, T, kb, q⟩
def sp0 (p : Hp → VK → XK → Prop) : Sp := fun vs H Q E => vs = [] ∧ p H Q E
section
variable {P : Program} {w : World} {K : PySem.W.Frag} {mg : Str → Option Value} {base : Heap} {x : Str} {st : Stmt} {N : List Str} {k : Nat}
theorem Top.ok0 {p : Hp → VK → XK → Prop} (D : Top K mg x st []) (S : FnScope N [] (defScope st))
    (hbody : ∀ (f : Addr) (cdv : Value) (A : Around) (outer : List Env) (s : Shared) (H : Hp) (Q : VK) (E : XK), Room k (A.deeper (envOfC x (defScope st) s.heap.objs.size f cdv)) → p H Q E →
      ∃ t, PSs (cxOf CX0 P w K mg base N x (defScope st) f cdv A outer s H E).nox (defBody st) t ∧ t { nx := fun _ H' => Q .non H', rt := Q } (start N []) H) : Has P w K mg base CX0 (k + 1) x [] (sp0 p) :=
  D.ok S (fun vs H Q E h => by obtain ⟨rfl, _⟩ := h; rfl) (fun f cdv A outer s H vs Q E hr h => by obtain ⟨rfl, h⟩ := h; exact hbody f cdv A outer s H Q E hr h)
end
theorem pe_own0 {X : Cx} {CX : CXT} {k : Nat} {sp : Sp} {E : XK} {x : Str} {p pos : Pos} (h : Has X.prog X.w X.K X.mg X.base CX k x [] sp) (hr : Room k X.A) (hx : Passes CX X E) (hg : Gl X x := by rfl) (hdb : (x == ("__debug__" : Str)) = false := by decide) : PE X (.Call (.Name x p) [] [] pos) (tCall sp [] E tNil) := by
  obtain ⟨f, fd, F, g, kp, b, _⟩ := h
  exact pe_call0 F hr hg g kp b .nil hx hdb
theorem same_xm {H : Hp} {a t C : Addr} {v : V} (na : H a = none) (nt : H t = none) : Same H (upd (upd H t (.tup [v])) a (exm a C t)) := fun b o h => by
  rw [upd_ne (ne_of_none h na), upd_ne (ne_of_none h nt)]
  exact h
def kindNames : List Str := ["number", "fit", "rule", "back", "ask"]
/-- asked of a refusal: is it of this kind alone -/
def pIsK (K : PySem.W.Frag) (CR CA CB CF CN CU : Addr) : V → V → Hp → VK → XK → Prop := fun x y H Q _ => ∃ (a D : Addr) (z : Str) (fa fb ff fn fu : Bool), x = .ref a ∧ y = .str z ∧ ExcAt H a D ∧ Kit K D CR CA CB CF CN CU fa fb ff fn fu ∧ [fn, ff, fu, fb, fa] = kindNames.map (fun q => decide (V.str q = V.str z)) ∧ ∀ H', Same H H' → Q (.bl true) H'
def pCaught14 (K : PySem.W.Frag) (CN : Addr) : V → V → V → Hp → VK → XK → Prop := fun x y c H Q _ => ∃ (r : Addr) (xs : List Int) (m wy : Int) (i : Nat), x = .int wy ∧ y = .ref r ∧ c = .int m ∧ SqT K H r (xs.map V.int) ∧ 0 ≤ wy ∧ wy ≤ 4 ∧ 1 ≤ m ∧ m ≤ 1000000000000 ∧ 2 ≤ xs.length ∧ xs.length ≤ 1000 ∧ FirstBad m xs i ∧
  ∀ H' a dd, Same H H' → H' a = some (exv a (.ref CN) (some dd)) → H' dd = some (.xd [("number", .int (xs.getD i 0))]) → Q (.ref a) H'
def pSpoil14 (K : PySem.W.Frag) : V → V → V → Hp → VK → XK → Prop := fun x y c H Q _ => ∃ (d r : Addr) (n : Nat) (m : Int) (xs : List Int), x = .ref d ∧ y = .ref r ∧ c = .int m ∧ Seed H d n ∧ n + 20 ≤ 100000000 ∧ H r = some (.tup (xs.map V.int)) ∧ 1 ≤ m ∧ m ≤ 1000000000000 ∧ Rng m xs ∧ 2 ≤ xs.length ∧ xs.length ≤ 60 ∧
  ∀ (H' : Hp) (q : Addr) (zs : List Int), But d H H' → Seed H' d (n + 20) → H q = none → H' q = some (.tup (zs.map V.int)) → zs.length = xs.length → (∃ j, j < zs.length ∧ ¬ (0 ≤ zs.getD j 0 ∧ zs.getD j 0 < m)) → Q (.ref q) H'
theorem first_bad {m : Int} {zs : List Int} (h : ∃ j, j < zs.length ∧ ¬ (0 ≤ zs.getD j 0 ∧ zs.getD j 0 < m)) : ∃ i, FirstBad m zs i := by
  obtain ⟨j, hj, nb⟩ := h
  rcases rng_or_bad m zs with rg | h
  · exfalso
    apply nb
    rw [get_D (List.getElem?_eq_getElem hj)]
    exact rg _ (List.getElem_mem hj)
  · exact h
theorem flt_first {p : Int → Bool} : ∀ {zs : List Int} {i : Nat}, i < zs.length → p (zs.getD i 0) = true → (∀ j, j < i → p (zs.getD j 0) = false) → ∃ t, zs.filter p = zs.getD i 0 :: t
  | [], i, h, _, _ => absurd h (Nat.not_lt_zero _)
  | a :: zs, 0, _, hp, _ => ⟨zs.filter p, by
      have : p a = true := hp
      rw [List.filter_cons_of_pos this]
      rfl⟩
  | a :: zs, i + 1, h, hp, hn => by
    have h0 : p a = false := hn 0 (by omega)
    obtain ⟨t, e⟩ := flt_first (zs := zs) (i := i) (by simpa using h) (by simpa using hp) (fun j hj => by simpa using hn (j + 1) (by omega))
    refine ⟨t, ?_⟩
    rw [List.filter_cons_of_neg (by rw [h0]; simp), e]
    rfl
end Tw
namespace Tw
open PySem PySem.Spec PyProof.Rows L2
theorem op_inK {X : Cx} {K : PySem.W.Frag} (h : X.K = K) : OpR X (compareOp .In) (rIn K false) := by
  subst h
  exact op_in_seq
end Tw
namespace Tw
open PySem PySem.Spec PyProof.Rows L2
theorem same_xo {H : Hp} {a d C : Addr} {fs : List (Str × V)} (na : H a = none) (nd : (upd H a (exo a C none)) d = none) (ne : d ≠ a) : Same H (upd (upd (upd H a (exo a C none)) d (exd d fs)) a (exo a C (some d))) := fun b o h => by
  have n1 : b ≠ a := ne_of_none h na
  rw [upd_ne ne] at nd
  rw [upd_ne n1, upd_ne (ne_of_none h nd), upd_ne n1]
  exact h
def pMade : Hp → VK → XK → Prop := fun H Q _ => ∀ H', Same H H' → Q (.bl true) H'
end Tw

/-! all(test for x in ..): the test is read in the generator's own frame, by the rules of the layer. -/
namespace Tw
open PySem PySem.Spec PyProof.Rows L2 GenW
/-- the generator's frame as a context -/
abbrev gxX (X : Cx) (s : Shared) (H : Hp) (cenv : Env) (fp : List Addr) (A : Around) : Cx :=
  { X with A := A, s_0 := s, H_0 := H, env := cenv, outer := X.stack, stack := cenv :: X.stack, ex := fp, fn := fun _ => false, pn := [], xe := fun _ _ => False }
def noneS (N : List Str) : L2.St := List.replicate N.length none
/-- the generator sleeps: only the table of generators changes -/
structure Sl (s s' : Shared) : Prop where
  hp : s'.heap = s.heap
  os : s'.os = s.os
  bare : AllBare s'.gens
  sz : s.gens.size ≤ s'.gens.size
theorem bare_set {s : Shared} {g : Nat} {x : GenState} (h : AllBare s.gens) (hx : x.bare = true) : AllBare (s.setGen g x).gens := by
  intro y hy
  have e : (s.setGen g x).gens = s.gens.setIfInBounds g x := rfl
  rw [e] at hy
  obtain ⟨i, hi, rfl⟩ := Array.mem_iff_getElem.mp hy
  rw [Array.getElem_setIfInBounds]
  · split
    · exact hx
    · exact h _ (Array.getElem_mem _)
  · simpa using hi
theorem set_get {s : Shared} {g : Nat} {x : GenState} (h : g < s.gens.size) : (s.setGen g x).gens[g]? = some x := setGen_self (Array.getElem?_eq_getElem h)
theorem _root_.L2.Inv.slept {X : Cx} {pins : List (Addr × Obj)} {σ : L2.St} {H : Hp} {s s' : Shared} (I : L2.Inv X pins σ H s) (z : Sl s s') : L2.Inv X pins σ H s' :=
  I.call' (ch := []) z.os (by rw [z.hp]; exact Un.kept fun _ _ e => e) (by rw [z.hp]; exact I.hok) z.bare fun _ hb => by cases hb
section
variable {G : Cx} {cenv : Env} {fp : List Addr} {A1 : Around} {it ga : Addr} {gi : Nat} {go : Obj} {tn : Nat → Heap → Prop} {J : It} {elt iter : Expr} {x : Str} {px gpos : Pos} {scope : Scope} {ix : Nat} {te : TE} {W : Nat → Hp → Prop} {Qt Qf : Hp → Prop} {N : Nat}
abbrev geE (elt iter : Expr) (x : Str) (px : Pos) (scope : Scope) (gpos : Pos) : Expr := .GeneratorExp elt [⟨.Name x px, iter, [], 0⟩] scope gpos
/-- the loop's code -/
abbrev geC (elt iter : Expr) (x : Str) (px : Pos) (scope : Scope) (gpos : Pos) (it : Addr) (cenv : Env) : Code := .compLoop (geE elt iter x px scope gpos) 0 (.ref it) .none cenv
abbrev geS (elt iter : Expr) (x : Str) (px : Pos) (scope : Scope) (gpos : Pos) (it : Addr) (cenv : Env) : Code := .compStart (geE elt iter x px scope gpos) 0 (.ref it) .none cenv
def gY (G : Cx) (gi : Nat) (pl : List (Addr × Obj)) (Qf : Hp → Prop) : Protocol := fun _ _ v s kap =>
  gi < s.gens.size ∧ ∃ (b : Bool) (σ : L2.St) (H : Hp), v = .bool b ∧ L2.Inv G pl σ H s ∧ (b = false → Qf H) ∧ (b = true → ∀ s', Sl s s' → kap (.send .none) s')
def gR (G : Cx) (pl : List (Addr × Obj)) (Qt : Hp → Prop) : GenEnd := fun _ _ r s => r = .ok .next ∧ ∃ (σ : L2.St) (H : Hp), L2.Inv G pl σ H s ∧ Qt H
/-- what G is -/
structure GeX (G : Cx) (fp : List Addr) (A1 : Around) (cenv : Env) (c : Code) : Prop where
  calm : G.calm = true
  A : G.A = A1.over c []
  env : G.env = cenv
  xe : G.xe = fun _ _ => False
  pn : G.pn = []
  ex : G.ex = fp
theorem none_set {N : List Str} {σ : L2.St} (hl : σ.length = N.length) (i : Nat) (u : V) (h : (noneS N)[i]? = some (some u)) : σ[i]? = some (some u) := by
  unfold noneS at h
  rw [List.getElem?_replicate] at h
  split at h <;> cases h
theorem seg_ge (gx : GeX G fp A1 cenv (geC elt iter x px scope gpos it cenv)) (hN : G.N.Nodup) (hi : G.N[ix]? = some x) (hx : scope.names.lookup x = some .local) (hsc : cenv.scope = scope) (hco : scope.isCoroutine = false)
    (T : Turn G.prog G.w G.K (.Name x px) J fp it tn) (hga : ga ∉ fp) (pe : PE G elt te)
    (hstop : ∀ H, W N H → J.stop N H ∧ Qt H)
    (hgo : ∀ i H, i < N → W i H → J.go i H ∧ ∀ v H', J.yld i H v H' → te ((noneS G.N).set ix (some v)) H' fun y H2 => ∃ b, y = .bl b ∧ (b = true → W (i + 1) H2) ∧ (b = false → Qf H2)) :
    ∀ (n i : Nat) (s₀ s : Shared) (H : Hp), i + n = N → L2.Inv G [(ga, go)] (noneS G.N) H s → tn i s.heap → (∀ b ∈ fp, H b = none) → W i H → gi < s.gens.size →
      Seg (model G.prog G.w) A1 (gR G [(ga, go)] Qt) (gY G gi [(ga, go)] Qf) n s₀ (geC elt iter x px scope gpos it cenv) ((model G.prog G.w).den (geC elt iter x px scope gpos it cenv)) [] s := by
  obtain ⟨calm, gA, gE, gxe, gpn, gex⟩ := gx
  have stat : ∀ {σ' : L2.St} {H' : Hp} {s' : Shared}, L2.Inv G [(ga, go)] σ' H' s' → (∀ b ∈ fp, H' b = none) → ∀ b ∈ fp, FpOk G [(ga, go)] H' b := fun {σ' H' s'} I' hn b hb => by
    have hb' : b ∈ G.ex := by rw [gex]; exact hb
    refine ⟨hn b hb, (I'.ok.exf b hb').1, I'.ok.exfs b hb', .inl hb', fun x c e => (I'.ok.exf b hb').2 x c e, fun p hp z => ?_⟩
    rw [gpn] at hp
    have e : p = (ga, go) := by simpa using hp
    have e2 : p.1 = ga := congrArg Prod.fst e
    exact hga (by rw [← e2, z]; exact hb)
  have pg : PG G (.Name x px) (gName ix) := pg_name hN hi (by rw [gE, hsc]; exact .inl hx) (.inr (by rw [gE, hsc]; exact hx))
  intro n
  induction n with
  | zero =>
    intro i s₀ s H hn I st nf w hgs
    obtain rfl : i = N := by omega
    show Seg _ A1 _ _ _ s₀ _ ((compTurn (geE elt iter x px scope gpos) 0 (.ref it) .none cenv).onRaise (leaving cenv)) [] s
    rw [compTurn_gen, Sem.onRaise_eq_wrap]
    refine seg_bind_wrap (wpAny_standAt ?_)
    obtain ⟨stop, qt⟩ := hstop H w
    have td := T.done G rfl rfl rfl calm i [(ga, go)] s _ H (fun _ _ => False) I (stat I nf) st stop
    rw [gA] at td
    refine seg_bind_wrap (thnF td fun r s1 ⟨hr, I1⟩ => ?_)
    subst hr
    exact seg_end (.ok .next) ⟨rfl, _, H, I1, qt⟩
  | succ n ih =>
    intro i s₀ s H hn I st nf w hgs
    show Seg _ A1 _ _ _ s₀ _ ((compTurn (geE elt iter x px scope gpos) 0 (.ref it) .none cenv).onRaise (leaving cenv)) [] s
    rw [compTurn_gen, Sem.onRaise_eq_wrap]
    refine seg_bind_wrap (wpAny_standAt ?_)
    obtain ⟨goes, step⟩ := hgo i H (by omega) w
    have ti := T.item G rfl rfl rfl calm i [(ga, go)] s _ H (fun _ _ => False) I (stat I nf) st goes
    rw [gA] at ti
    refine seg_bind_wrap (wpAny_gsz hgs (thnF ti fun r s1 ⟨u, hr, h1⟩ z1 => ?_))
    subst hr
    refine seg_bind_wrap (wpAny_gsz z1 (thnF h1 fun _ s2 ⟨v, H2, I2, r2, y2, st2, n2⟩ z2 => ?_))
    have I2' := I2.pinned (stat I2 n2) (T.obj _ _ st2)
    have pr := pg.run _ s2 _ H2 v u (fun σ' H' => σ' = (noneS G.N).set ix (some v) ∧ H' = H2) I2' r2 ⟨rfl, rfl⟩
    rw [gA, gE, gxe] at pr
    refine seg_bind_wrap (wpAny_gsz z2 (thnF pr fun _ s3 ⟨σ3, H3, I3, e3, e4⟩ z3 => ?_))
    subst e3 e4
    simp only [List.forIn_nil]
    refine seg_bind_wrap (wpAny_pure ?_)
    simp only [if_true]
    have hy : ∀ v, yieldOut cenv v = yieldValue v := fun v => by simp only [yieldOut, hsc, hco, Bool.false_eq_true, if_false]
    simp only [hy]
    rw [Sem.bind_eq_wrap', Sem.bind_eq_wrap', Sem.wrap_wrap, Sem.wrap_wrap]
    have er := pe.run _ s3 _ H3 _ I3 (step v H3 y2)
    rw [gA, gE, gxe] at er
    refine seg_wrap (wpAny_gsz z3 (thnF er fun y s5 ⟨yv, H5, I5, r5, b, eb, wt, wf⟩ z5 => ?_))
    subst eb
    obtain rfl : y = .bool b := r5
    have I6 : L2.Inv G [(ga, go)] (noneS G.N) H5 s5 := (I5.unpinned (pins := [(ga, go)])).weak (by unfold noneS; rw [List.length_replicate]; exact I5.len.symm) (fun j u e => none_set I5.len j u e)
    have pin' : ∀ b ∈ fp, ∀ o, s2.heap.get? b = some o → s5.heap.get? b = some o ∧ H5 b = none := fun b hb o e =>
      let z := I5.pin (b, o) (List.mem_append_right _ (List.mem_append_right _ (mem_pinsAt hb e)))
      ⟨z.1, z.2.1⟩
    have st5 : tn (i + 1) s5.heap := T.keep _ _ _ st2 fun b hb o e => (pin' b hb o e).1
    have n5 : ∀ b ∈ fp, H5 b = none := fun b hb => by
      obtain ⟨o, e, _⟩ := T.obj _ _ st2 b hb
      exact (pin' b hb o e).2
    refine seg_at (seg_yield rfl rfl rfl ⟨z5, b, _, H5, rfl, I6, wf, fun hb s' sl => ?_⟩)
    exact seg_again rfl (ih (i + 1) s' s' H5 (by omega) (I6.slept sl) (by rw [sl.hp]; exact st5) n5 (wt hb) (Nat.lt_of_lt_of_le z5 sl.sz))
/-- the generator lies asleep, n turns at the most are left -/
structure Slp (G : Cx) (A1 : Around) (ga : Addr) (gi : Nat) (go : Obj) (Qt Qf : Hp → Prop) (n : Nat) (s : Shared) : Prop where
  gen : s.heap.IsGen ga gi
  lim : s.heap.NoLimit
  bare : AllBare s.gens
  goes : ∃ gs, s.gens[gi]? = some gs ∧ ∀ s', Sl s s' → gs.Goes (model G.prog G.w) A1 (gR G [(ga, go)] Qt) (gY G gi [(ga, go)] Qf) n (.send .none) s'
theorem sl_set {s : Shared} {g : Nat} {x : GenState} (h : AllBare s.gens) (hx : x.bare = true) : Sl s (s.setGen g x) := ⟨rfl, rfl, bare_set h hx, by rw [setGen_size]; exact Nat.le_refl _⟩
theorem loop_all {A : Around} {R : Result → Shared → Prop} (hh : A.handled = none) (hroom : A.depth < recursionLimit) (hgo : ∀ h : Heap, h.get? ga = some go → h.IsGen ga gi)
    (ht : ∀ σ H s, L2.Inv G [(ga, go)] σ H s → Qt H → R (.ok (.ret (.bool true))) s) (hf : ∀ σ H s, L2.Inv G [(ga, go)] σ H s → Qf H → R (.ok (.ret (.bool false))) s) :
    ∀ (n : Nat) (s : Shared), Slp G A.in1.in1 ga gi go Qt Qf n s → codeAny (model G.prog G.w) A (.builtin "all.loop" ⟨[.ref ga], []⟩) R s := by
  intro n
  induction n with
  | zero =>
    intro s S
    refine codeAny_builtin F.entry_all_loop ?_
    rw [Around.under_plainId F.plain_all_loop _]
    show wpAny _ A.in1 (pyNext (.ref ga) >>= _) _ _ s
    obtain ⟨gs, hgs, goes⟩ := S.goes
    refine wpAny_bind (wpAny_pyNext_genexpQ (P := fun _ _ s => ∃ (σ : L2.St) (H : Hp), L2.Inv G [(ga, go)] σ H s ∧ Qt H) hh S.lim hroom S.gen hgs (goes _ (sl_set S.bare rfl)) (fun v s1 gs' hb hv => ?_) fun s1 hp h' hk => ?_)
    · obtain ⟨z1, b, σ, H, rfl, I, qf, kap⟩ := hv
      refine wpAny_bind (wpAny_holding (wpAny_truthy_bool ?_))
      refine wpAny_bind (wpAny_letGo ?_)
      cases b with
      | true => exact (kap rfl s1 ⟨rfl, rfl, I.bare, Nat.le_refl _⟩).elim
      | false =>
        simp only [Bool.false_eq_true, if_false]
        refine wpAny_bind (wpAny_rule (wpAny_pure ?_))
        exact hf σ H _ (I.slept (sl_set I.bare hb)) (qf rfl)
    · obtain ⟨σ, H, I, qt⟩ := hp
      refine wpAny_bind (wpAny_rule (wpAny_pure ?_))
      exact ht σ H _ ((I.slept (sl_set (g := gi) (x := .finished) I.bare rfl)).call' (ch := []) rfl (Un.kept hk) ((I.slept (sl_set (g := gi) (x := .finished) I.bare rfl)).hok.kept hk) (bare_set I.bare rfl) fun _ hb => by cases hb) qt
  | succ n ih =>
    intro s S
    refine codeAny_builtin F.entry_all_loop ?_
    rw [Around.under_plainId F.plain_all_loop _]
    show wpAny _ A.in1 (pyNext (.ref ga) >>= _) _ _ s
    obtain ⟨gs, hgs, goes⟩ := S.goes
    refine wpAny_bind (wpAny_pyNext_genexpQ (P := fun _ _ s => ∃ (σ : L2.St) (H : Hp), L2.Inv G [(ga, go)] σ H s ∧ Qt H) hh S.lim hroom S.gen hgs (goes _ (sl_set S.bare rfl)) (fun v s1 gs' hb hv => ?_) fun s1 hp h' hk => ?_)
    · obtain ⟨z1, b, σ, H, rfl, I, qf, kap⟩ := hv
      refine wpAny_bind (wpAny_holding (wpAny_truthy_bool ?_))
      refine wpAny_bind (wpAny_letGo ?_)
      cases b with
      | true =>
        simp only [if_true]
        refine wpAny_pure ⟨plainId_quiet F.plain_all_loop _, ih _ ⟨?_, ?_, bare_set I.bare hb, gs', set_get z1, fun s' sl => ?_⟩⟩
        · exact hgo _ (I.pin (ga, go) (List.mem_append_right _ (List.mem_singleton.mpr rfl))).1
        · exact I.nolimit
        · exact kap rfl s' ⟨sl.hp, sl.os, sl.bare, Nat.le_trans (by rw [setGen_size]; exact Nat.le_refl _) sl.sz⟩
      | false =>
        simp only [Bool.false_eq_true, if_false]
        refine wpAny_bind (wpAny_rule (wpAny_pure ?_))
        exact hf σ H _ (I.slept (sl_set I.bare hb)) (qf rfl)
    · obtain ⟨σ, H, I, qt⟩ := hp
      refine wpAny_bind (wpAny_rule (wpAny_pure ?_))
      exact ht σ H _ ((I.slept (sl_set (g := gi) (x := .finished) I.bare rfl)).call' (ch := []) rfl (Un.kept hk) ((I.slept (sl_set (g := gi) (x := .finished) I.bare rfl)).hok.kept hk) (bare_set I.bare rfl) fun _ hb => by cases hb) qt
end
end Tw

/-! the rule: all(test for x in ..). -/
namespace Tw
open PySem PySem.Spec PyProof.Rows L2 GenW
section
variable {G : Cx} {cenv : Env} {fp : List Addr} {A1 : Around} {it ga : Addr} {gi : Nat} {go : Obj} {tn : Nat → Heap → Prop} {J : It} {elt iter : Expr} {x : Str} {px gpos : Pos} {scope : Scope} {Qt Qf : Hp → Prop} {n : Nat}
theorem seg_start {R : GenEnd} {Y : Protocol} {s₀ s : Shared} {M : Program} {w : World} {K : PySem.W.Frag} {tg : Expr} (T : Turn M w K tg J fp it tn) (st : tn 0 s.heap)
    (loop : Seg (model M w) A1 R Y n s₀ (geC elt iter x px scope gpos it cenv) ((model M w).den (geC elt iter x px scope gpos it cenv)) [] s) :
    Seg (model M w) A1 R Y n s₀ (geS elt iter x px scope gpos it cenv) ((model M w).den (geS elt iter x px scope gpos it cenv)) [] s := by
  show Seg _ A1 _ _ _ s₀ _ ((compStart (geE elt iter x px scope gpos) 0 (.ref it) .none cenv).onRaise (leaving cenv)) [] s
  unfold compStart
  rw [Sem.onRaise_eq_wrap]
  show Seg _ A1 _ _ _ s₀ _ ((ask >>= _).wrap _ _ _ _) [] s
  refine seg_bind_wrap (wpAny_askSetting ?_)
  split
  · exact seg_again rfl loop
  · refine seg_bind_wrap (wpAny_rule ?_)
    show Seg _ A1 _ _ _ s₀ _ ((standAt iter.pos >>= _).wrap _ _ _ _) [] s
    exact seg_bind_wrap (wpAny_standAt (seg_bind_wrap (T.self _ 0 s _ _ st (seg_again rfl loop))))
end
/-- the generator's scope: its one name, nothing captured -/
structure GeS (scope : Scope) (x : Str) : Prop where
  kind : scope.kind = .function
  co : scope.isCoroutine = false
  cell : ∀ y ∈ scope.names, y.2 ≠ .cell
  free : ∀ y ∈ scope.names, y.2 ≠ .free
  dot : scope.names.lookup (".0" : Str) = some NameKind.local
  loc : scope.names.lookup x = some .local
theorem clo_nil {cells : List (Str × Addr)} : ∀ {names : List (Str × NameKind)}, (∀ y ∈ names, y.2 ≠ .free) → ∀ acc, cloFrom cells names acc = acc
  | [], _, acc => rfl
  | (n, k) :: r, h, acc => by
    unfold cloFrom
    rw [if_neg (by have := h (n, k) List.mem_cons_self; simpa using this)]
    exact clo_nil (fun y hy => h y (List.mem_cons_of_mem _ hy)) acc
/-- its context at the start -/
theorem ge_start {X : Cx} {pins : List (Addr × Obj)} {σ : L2.St} {H : Hp} {s : Shared} {scope : Scope} {x : Str} {fp : List Addr} {A : Around} {code : Value} {m : Str → Option Value} {h' : Heap} {g' : Array GenState} {t' : Nat} {go : Obj}
    (I : L2.Inv X pins σ H s) (S : GeS scope x) (hA : A.handled = none) (hfr : A.frames = some (genEnv scope [] s.heap.objs.size code builtinsNs X.env :: X.stack)) (hfp : ∀ b ∈ fp, FpOk X pins H b ∧ b < s.heap.objs.size)
    (hn : h'.Ns s.heap.objs.size m) (hk : ∀ b o, s.heap.get? b = some o → h'.get? b = some o) (hsz : h'.objs.size = s.heap.objs.size + 1) (hfree : go.isFreed = false) (hgo : ∀ v, go.data ≠ .cell v) (hg : AllBare g') :
    L2.Inv (gxX X s H (genEnv scope [] s.heap.objs.size code builtinsNs X.env) fp A) [(h'.objs.size, go)] (noneS X.N) H { s with heap := h'.push go, gens := g', toks := t' } := by
  have kp : ∀ b o, s.heap.get? b = some o → (h'.push go).get? b = some o := fun b o e => Heap.get?_push_of_some _ (hk b o e)
  have ge : s.heap.objs.size ≤ h'.objs.size := by rw [hsz]; exact Nat.le_succ _
  have okG : (gxX X s H (genEnv scope [] s.heap.objs.size code builtinsNs X.env) fp A).Ok := by
    refine ⟨I.ok.mod, S.kind, I.ok.glob, rfl, Nat.le_refl _, fun y z c e1 e2 => ?_, fun y hy => ?_, fun y c z e => ?_, fun _ => hA, hfr, .inr ⟨rfl, rfl⟩, fun b hb => ⟨Nat.ne_of_lt (hfp b hb).2, fun y c e z => ?_⟩, I.bs, Nat.le_trans I.ok.bsz I.sz, fun b o e hb => ?_, fun b hb z => ?_, I.stack, I.stkFree⟩
    · cases e1
    · rcases hy with hy | hy
      · exact absurd rfl (S.cell _ (PySem.mem_of_lookup hy))
      · exact absurd rfl (S.free _ (PySem.mem_of_lookup hy))
    · cases e
    · cases e
    · rcases (hfp b hb).1.2.2.2.1 with z | z
      · exact I.ok.noex b o e z
      · exact absurd (Nat.lt_of_lt_of_le (Heap.lt_size e) (Nat.le_trans I.ok.bsz z)) (Nat.lt_irrefl _)
    · rcases List.mem_cons.mp (I.stkSub b z) with z | z
      · exact (hfp b hb).1.2.1 z
      · exact (hfp b hb).1.2.2.1 z
  refine ⟨okG, rfl, hg, Un.kept kp, ⟨m, hn.push _, fun i y av e1 e2 e3 => ?_⟩, fun y c e => ?_, I.hok.fresh (Nat.le_refl _), fun y c e => ?_, fun p hp => ?_, I.hok.kept kp, by unfold noneS; rw [List.length_replicate]⟩
  · unfold noneS at e2
    rw [List.getElem?_replicate] at e2
    split at e2 <;> cases e2
  · cases e
  · cases e
  · have e : p = (h'.objs.size, go) := by simpa using hp
    subst e
    refine ⟨Heap.get?_push_size _ hfree, I.hok.fresh ge, ?_, ?_, hgo⟩
    · show h'.objs.size ≠ s.heap.objs.size
      rw [hsz]
      exact Nat.succ_ne_self _
    · intro z
      rcases List.mem_cons.mp (I.stkSub _ z) with z | z
      · have := I.lt
        rw [← z] at this
        exact absurd (Nat.lt_of_lt_of_le this ge) (Nat.lt_irrefl _)
      · exact I.nofs ge z
/-- all(test for x in ..): W what stands ahead of turn i, of N -/
def tAllG (P : Addr) (NS : List Str) (ix : Nat) (wi : TI) (te : TE) : TE := fun σ H Q => wi σ H fun J H1 => GxR.TabG H1 P ∧ ∃ (N : Nat) (W : Nat → Hp → Prop), (∀ H2, GxR.Tabbed P H1 H2 → W 0 H2) ∧ (∀ H, W N H → J.stop N H ∧ Q (.bl true) H) ∧
  ∀ i H, i < N → W i H → J.go i H ∧ ∀ v H', J.yld i H v H' → te ((noneS NS).set ix (some v)) H' fun y H2 => ∃ b, y = .bl b ∧ (b = true → W (i + 1) H2) ∧ (b = false → Q (.bl false) H2)
theorem pe_allG {X : Cx} {c P : Addr} {elt iter : Expr} {x : Str} {px p pos gpos : Pos} {scope : Scope} {wi : TI} {te : TE} {k ix : Nat} (hc : X.calm = true) (hN : X.N.Nodup) (hi : X.N[ix]? = some x) (hr : Room (k + 1) X.A) (hg : Gl X "all") (hm : X.mg "all" = none)
    (hb : bootBuiltins "all" = some (.builtin "all")) (TB : GxR.TabB X.base X.mg c P) (hcode : X.env.code = .ref c) (S : GeS scope x) (hit : PI X (.Name x px) iter wi)
    (hel : ∀ (s : Shared) (H : Hp) (C : Addr) (code : Value) (fp : List Addr) (A : Around), Room k A → PE (gxX X s H (genEnv scope [] C code builtinsNs X.env) fp A) elt te)
    (hs : ∀ v, genFold iter X.env v = pure v)
    (he : starEach [geE elt iter x px scope gpos] X.env = (false, eval (geE elt iter x px scope gpos) X.env) :: starEach [] X.env := by rfl) :
    PE X (.Call (.Name "all" p) [geE elt iter x px scope gpos] [] pos) (tAllG P X.N ix wi te) := by
  refine ⟨fun pins s σ H Q I h => ?_⟩
  refine wpAny_Call_Name_kw (ld_blt I hg hm hb ?_)
  refine PyProof.Rows.callWith_builtin1 ?_ he (by rfl)
  rw [he]
  show wpAny _ _ (spliced ((false, eval (geE elt iter x px scope gpos) X.env) :: backTo pos (starEach [] X.env))) _ _ s
  refine Calls.spliced_cons ?_
  have hcl : closureFor scope X.env = pure [] := by
    rw [closure_ok (env := X.env) (fun y hy e => absurd e (S.free y hy)), clo_nil S.free]
  refine wpAny_GeneratorExp_make S.co hcl S.cell S.dot S.kind (by have := hr.dp; omega) ?_ hs
  refine thn (hit.run pins s σ H _ I h) fun xv s1 hx => thn hx fun itv s2 h2 => ?_
  obtain ⟨it, fp, tn, J, H2, rfl, I2, T, st2, f2, ⟨ps, hP, ht⟩, N, W, w0, hstop, hgo⟩ := h2
  refine ⟨I2.nolimit, ?_⟩
  have hPs : s2.heap.get? P = some { cls := .none, data := .fields ps } := I2.hok P _ hP
  have cd : PySem.W.CodeHd s2.heap c P := TB.code.keeps fun b u e => I2.bk b u e
  have cont : ∀ (code : Value) (h3 : Heap) (tk : Nat) (ps' : Array Value), Heap.ExtBut P s2.heap h3 → s2.heap.objs.size ≤ h3.objs.size → h3.get? P = some { cls := .none, data := .fields ps' } → (∃ more, ps' = ps ++ more) → TriplesOk ps'.toList →
      wpAny (model X.prog X.w) X.A (builtinsFor X.env.globals X.env.builtins) (fun bi s₄ =>
        ∀ h', h'.Ns s₄.heap.objs.size (fun y => if y = ".0" then some (.ref it) else none) → Heap.SameBut s₄.heap.objs.size (s₄.heap.push { cls := .type "frame", data := .dict #[] }) h' →
          wpAny (model X.prog X.w) X.A (spliced (backTo pos (starEach [] X.env))) (fun vs s' => wpAny (model X.prog X.w) X.A (call (.builtin "all") (Value.ref h'.objs.size :: vs)) (EP X pins σ Q) X.xe s') X.xe
          { s₄ with
            gens := s₄.gens.push (.fresh (.compStart (geE elt iter x px scope gpos) 0 (.ref it) .none (genEnv scope [] s₄.heap.objs.size code bi X.env))),
            toks := s₄.toks + 1 + 1 + 1,
            heap := h'.push { cls := .type "generator", data := .fields #[.int s₄.gens.size 0, .str "<genexpr>" (s₄.toks + 1), .str (X.env.qual ++ "<genexpr>") (s₄.toks + 1 + 1)] } }) X.xe { s2 with heap := h3, toks := tk } := by
    intro code h3 tk ps' hx hsz hP3 ⟨more, em⟩ ht3
    obtain ⟨bm, ob, e1, e2, e3, e4, e5, e6, e7, e8⟩ := TB.bm
    have keep3 : ∀ b u, b ≠ P → s2.heap.get? b = some u → h3.get? b = some u := fun b u hb e => hx b u hb e
    refine wpAny_builtinsFor (m := X.mg) (by rw [I2.ok.glob]; exact (I2.mod.glob.keeps I2.bk).extBut hx TB.gP) e1 e2 (keep3 _ _ e4 (I2.bk _ _ e5)) e6 e7 e8 ?_
    intro h' hn' hs'
    subst em
    have I4 : L2.Inv X pins σ (upd H2 P (.tbl (ps ++ more))) { s2 with heap := h3, gens := s2.gens, drawn := s2.drawn, toks := tk } := GxR.inv_tab I2 hP keep3 hP3 I2.bare
    have fl : ∀ b ∈ fp, b < s2.heap.objs.size := fun b hb => by
      obtain ⟨o, e, _⟩ := T.obj _ _ st2 b hb
      exact Heap.lt_size e
    have fP : ∀ b ∈ fp, b ≠ P := fun b hb z => by
      have := (f2 b hb).1
      rw [z, hP] at this
      cases this
    have f4 : ∀ b ∈ fp, FpOk X pins (upd H2 P (.tbl (ps ++ more))) b ∧ b < h3.objs.size := fun b hb => ⟨⟨by rw [upd_ne (fP b hb)]; exact (f2 b hb).1, (f2 b hb).2⟩, Nat.lt_of_lt_of_le (fl b hb) hsz⟩
    have hs1 : h'.objs.size = h3.objs.size + 1 := by
      have := hs'.1
      rw [this]
      exact Heap.size_push ..
    have kh : ∀ b o, h3.get? b = some o → h'.get? b = some o := fun b o e => hs'.extBut b o (Nat.ne_of_lt (Heap.lt_size e)) (Heap.get?_push_of_some _ e)
    have IG := ge_start (A := X.A.in1.in1.over (geC elt iter x px scope gpos it (genEnv scope [] h3.objs.size code builtinsNs X.env)) []) (code := code) (x := x) (scope := scope) (t' := tk + 1 + 1 + 1) (g' := s2.gens.push (.fresh (.compStart (geE elt iter x px scope gpos) 0 (.ref it) .none (genEnv scope [] h3.objs.size code builtinsNs X.env))))
      (go := { cls := .type "generator", data := .fields #[.int s2.gens.size 0, .str "<genexpr>" (tk + 1), .str (X.env.qual ++ "<genexpr>") (tk + 1 + 1)] }) I4 S hr.hd (by
        show pushEnvs [genEnv scope [] h3.objs.size code builtinsNs X.env] (pushEnvs [] X.A.frames) = _
        rw [I2.ok.frames]
        rfl) f4 hn' kh hs1 rfl (fun v z => by cases z) (I2.bare.push rfl)
    refine Calls.spliced_nil ?_
    have back : ∀ (σ' : L2.St) (H' : Hp) (s' : Shared), L2.Inv (gxX X { s2 with heap := h3, gens := s2.gens, drawn := s2.drawn, toks := tk } (upd H2 P (.tbl (ps ++ more))) (genEnv scope [] h3.objs.size code builtinsNs X.env) fp (X.A.in1.in1.over (geC elt iter x px scope gpos it (genEnv scope [] h3.objs.size code builtinsNs X.env)) []))
        [(h'.objs.size, { cls := .type "generator", data := .fields #[.int s2.gens.size 0, .str "<genexpr>" (tk + 1), .str (X.env.qual ++ "<genexpr>") (tk + 1 + 1)] })] σ' H' s' → L2.Inv X pins σ H' s' := fun σ' H' s' I' =>
      I4.call' (ch := fp) I'.os I'.base I'.hok I'.bare fun b hb => ⟨(f4 b hb).1.2.2.2.1, (f4 b hb).1.2.1, (f4 b hb).1.2.2.2.2.1, (f4 b hb).1.2.2.2.2.2⟩
    have room : Room k (X.A.in1.in1.over (geC elt iter x px scope gpos it (genEnv scope [] h3.objs.size code builtinsNs X.env)) []) := by
      have e1 : (X.A.in1.in1.over (geC elt iter x px scope gpos it (genEnv scope [] h3.objs.size code builtinsNs X.env)) []).depth = X.A.depth + 1 := rfl
      have e2 : (X.A.in1.in1.over (geC elt iter x px scope gpos it (genEnv scope [] h3.objs.size code builtinsNs X.env)) []).units ≤ X.A.units + 5 := Nat.le_of_eq rfl
      have r1 := hr.dp
      have r2 := hr.un
      exact ⟨hr.hd, by rw [e1]; omega, by omega⟩
    have st5 : tn 0 (h'.push { cls := .type "generator", data := .fields #[.int s2.gens.size 0, .str "<genexpr>" (tk + 1), .str (X.env.qual ++ "<genexpr>") (tk + 1 + 1)] }) := T.keep _ _ _ st2 fun b hb o e => Heap.get?_push_of_some _ (kh b o (keep3 b o (fP b hb) e))
    have hgen : ∀ h : Heap, h.get? h'.objs.size = some { cls := .type "generator", data := .fields #[.int s2.gens.size 0, .str "<genexpr>" (tk + 1), .str (X.env.qual ++ "<genexpr>") (tk + 1 + 1)] } → h.IsGen h'.objs.size s2.gens.size := fun h e => ⟨_, _, _, e, rfl, rfl, rfl⟩
    have hga : h'.objs.size ∉ fp := fun z => by
      have := (f4 _ z).2
      rw [hs1] at this
      exact absurd (Nat.lt_trans (Nat.lt_succ_self _) this) (Nat.lt_irrefl _)
    refine call_function_tree F.kind_all F.plain_all F.entry_all (F.args_all1 _) ?_
    unfold Builtin.«all»
    refine wpAny_bind (m := oneArg "all" _) (wpAny_pure ?_)
    refine wpAny_bind (wpAny_pyIter_gen (g := s2.gens.size) (hgen _ (Heap.get?_push_size _ rfl)) ?_)
    refine wpAny_pure ⟨plainId_quiet F.plain_all_loop _, ?_⟩
    refine loop_all (G := gxX X { s2 with heap := h3, gens := s2.gens, drawn := s2.drawn, toks := tk } (upd H2 P (.tbl (ps ++ more))) (genEnv scope [] h3.objs.size code builtinsNs X.env) fp (X.A.in1.in1.over (geC elt iter x px scope gpos it (genEnv scope [] h3.objs.size code builtinsNs X.env)) []))
      (Qt := fun H => Q (.bl true) H) (Qf := fun H => Q (.bl false) H) hr.hd (by have := hr.dp; omega) hgen (fun σ' H' s' I' q' => ⟨.bl true, H', back σ' H' s' I', rfl, q'⟩) (fun σ' H' s' I' q' => ⟨.bl false, H', back σ' H' s' I', rfl, q'⟩) N _ ⟨hgen _ (Heap.get?_push_size _ rfl), IG.nolimit, I2.bare.push rfl, _, Array.getElem?_push_size .., fun s' sl => ⟨rfl, ?_⟩⟩
    have sz' : s2.gens.size < s'.gens.size := by
      have := sl.sz
      have e : (s2.gens.push (.fresh (.compStart (geE elt iter x px scope gpos) 0 (.ref it) .none (genEnv scope [] h3.objs.size code builtinsNs X.env)))).size = s2.gens.size + 1 := Array.size_push ..
      exact Nat.lt_of_lt_of_le (Nat.lt_of_lt_of_le (Nat.lt_succ_self _) (Nat.le_of_eq e.symm)) this
    have st6 : tn 0 s'.heap := by rw [sl.hp]; exact st5
    exact seg_start T st6 (seg_ge (G := gxX X { s2 with heap := h3, gens := s2.gens, drawn := s2.drawn, toks := tk } (upd H2 P (.tbl (ps ++ more))) (genEnv scope [] h3.objs.size code builtinsNs X.env) fp (X.A.in1.in1.over (geC elt iter x px scope gpos it (genEnv scope [] h3.objs.size code builtinsNs X.env)) []))
      (ix := ix) ⟨hc, rfl, rfl, rfl, rfl, rfl⟩ hN hi S.loc rfl S.co T hga (hel _ _ _ _ _ _ room) hstop hgo N 0 s' s' _ (Nat.zero_add N) (IG.slept sl) st6 (fun b hb => (f4 b hb).1.1) (w0 _ ⟨⟨ps ++ more, upd_same, ht3⟩, fun b hb => upd_ne hb⟩) sz')
  cases hf : codeAmong gpos ps.toList with
  | none =>
    refine wpAny_genexprCodeX hcode (cd.code hPs ht) (cd.tab hPs) hf fun c' h' tk hx hge hlt hco' _ htab' _ => ?_
    obtain ⟨o1, vs, f1, tf, fl, tg, inF, tx, tt, op, _, _, _, _, _, _, _, _, _, htr, _⟩ := hco'
    exact cont _ h' tk _ hx (Nat.le_trans hge (Nat.le_of_lt hlt)) htab'.2 ⟨_, rfl⟩ htr
  | some cv =>
    refine wpAny_genexprCode_hit hcode (cd.code hPs ht) hf ?_
    exact cont cv s2.heap s2.toks ps (Heap.ExtBut.refl _ _) (Nat.le_refl _) hPs ⟨#[], by simp⟩ ht
end Tw

/-! all(test for x in ..) whose test reads a name of the def around it. -/
namespace Tw
open PySem PySem.Spec PyProof.Rows L2 GenW NdefX
section
variable {G : Cx} {cenv : Env} {fp : List Addr} {A1 : Around} {it ga : Addr} {gi : Nat} {go : Obj} {tn : Nat → Heap → Prop} {J : It} {elt iter : Expr} {x : Str} {px gpos : Pos} {scope : Scope} {ix : Nat} {te : TE} {W : Nat → Hp → Prop} {Qt Qf : Hp → Prop} {N : Nat}
theorem seg_geF {σ0 : L2.St} (h0 : ∀ (j : Nat) (u : V), σ0[j]? = some (some u) → j ≠ ix) (hl0 : σ0.length = G.N.length) (gx : GeX G fp A1 cenv (geC elt iter x px scope gpos it cenv)) (hN : G.N.Nodup) (hi : G.N[ix]? = some x) (hx : scope.names.lookup x = some .local) (hsc : cenv.scope = scope) (hco : scope.isCoroutine = false)
    (T : Turn G.prog G.w G.K (.Name x px) J fp it tn) (hga : ga ∉ fp) (pe : PE G elt te)
    (hstop : ∀ H, W N H → J.stop N H ∧ Qt H)
    (hgo : ∀ i H, i < N → W i H → J.go i H ∧ ∀ v H', J.yld i H v H' → te (σ0.set ix (some v)) H' fun y H2 => ∃ b, y = .bl b ∧ (b = true → W (i + 1) H2) ∧ (b = false → Qf H2)) :
    ∀ (n i : Nat) (s₀ s : Shared) (H : Hp), i + n = N → L2.Inv G [(ga, go)] σ0 H s → tn i s.heap → (∀ b ∈ fp, H b = none) → W i H → gi < s.gens.size →
      Seg (model G.prog G.w) A1 (gR G [(ga, go)] Qt) (gY G gi [(ga, go)] Qf) n s₀ (geC elt iter x px scope gpos it cenv) ((model G.prog G.w).den (geC elt iter x px scope gpos it cenv)) [] s := by
  obtain ⟨calm, gA, gE, gxe, gpn, gex⟩ := gx
  have stat : ∀ {σ' : L2.St} {H' : Hp} {s' : Shared}, L2.Inv G [(ga, go)] σ' H' s' → (∀ b ∈ fp, H' b = none) → ∀ b ∈ fp, FpOk G [(ga, go)] H' b := fun {σ' H' s'} I' hn b hb => by
    have hb' : b ∈ G.ex := by rw [gex]; exact hb
    refine ⟨hn b hb, (I'.ok.exf b hb').1, I'.ok.exfs b hb', .inl hb', fun x c e => (I'.ok.exf b hb').2 x c e, fun p hp z => ?_⟩
    rw [gpn] at hp
    have e : p = (ga, go) := by simpa using hp
    have e2 : p.1 = ga := congrArg Prod.fst e
    exact hga (by rw [← e2, z]; exact hb)
  have pg : PG G (.Name x px) (gName ix) := pg_name hN hi (by rw [gE, hsc]; exact .inl hx) (.inr (by rw [gE, hsc]; exact hx))
  intro n
  induction n with
  | zero =>
    intro i s₀ s H hn I st nf w hgs
    obtain rfl : i = N := by omega
    show Seg _ A1 _ _ _ s₀ _ ((compTurn (geE elt iter x px scope gpos) 0 (.ref it) .none cenv).onRaise (leaving cenv)) [] s
    rw [compTurn_gen, Sem.onRaise_eq_wrap]
    refine seg_bind_wrap (wpAny_standAt ?_)
    obtain ⟨stop, qt⟩ := hstop H w
    have td := T.done G rfl rfl rfl calm i [(ga, go)] s _ H (fun _ _ => False) I (stat I nf) st stop
    rw [gA] at td
    refine seg_bind_wrap (thnF td fun r s1 ⟨hr, I1⟩ => ?_)
    subst hr
    exact seg_end (.ok .next) ⟨rfl, _, H, I1, qt⟩
  | succ n ih =>
    intro i s₀ s H hn I st nf w hgs
    show Seg _ A1 _ _ _ s₀ _ ((compTurn (geE elt iter x px scope gpos) 0 (.ref it) .none cenv).onRaise (leaving cenv)) [] s
    rw [compTurn_gen, Sem.onRaise_eq_wrap]
    refine seg_bind_wrap (wpAny_standAt ?_)
    obtain ⟨goes, step⟩ := hgo i H (by omega) w
    have ti := T.item G rfl rfl rfl calm i [(ga, go)] s _ H (fun _ _ => False) I (stat I nf) st goes
    rw [gA] at ti
    refine seg_bind_wrap (wpAny_gsz hgs (thnF ti fun r s1 ⟨u, hr, h1⟩ z1 => ?_))
    subst hr
    refine seg_bind_wrap (wpAny_gsz z1 (thnF h1 fun _ s2 ⟨v, H2, I2, r2, y2, st2, n2⟩ z2 => ?_))
    have I2' := I2.pinned (stat I2 n2) (T.obj _ _ st2)
    have pr := pg.run _ s2 _ H2 v u (fun σ' H' => σ' = σ0.set ix (some v) ∧ H' = H2) I2' r2 ⟨rfl, rfl⟩
    rw [gA, gE, gxe] at pr
    refine seg_bind_wrap (wpAny_gsz z2 (thnF pr fun _ s3 ⟨σ3, H3, I3, e3, e4⟩ z3 => ?_))
    subst e3 e4
    simp only [List.forIn_nil]
    refine seg_bind_wrap (wpAny_pure ?_)
    simp only [if_true]
    have hy : ∀ v, yieldOut cenv v = yieldValue v := fun v => by simp only [yieldOut, hsc, hco, Bool.false_eq_true, if_false]
    simp only [hy]
    rw [Sem.bind_eq_wrap', Sem.bind_eq_wrap', Sem.wrap_wrap, Sem.wrap_wrap]
    have er := pe.run _ s3 _ H3 _ I3 (step v H3 y2)
    rw [gA, gE, gxe] at er
    refine seg_wrap (wpAny_gsz z3 (thnF er fun y s5 ⟨yv, H5, I5, r5, b, eb, wt, wf⟩ z5 => ?_))
    subst eb
    obtain rfl : y = .bool b := r5
    have I6 : L2.Inv G [(ga, go)] σ0 H5 s5 := (I5.unpinned (pins := [(ga, go)])).weak (List.length_set ..).symm (fun j u e => by rw [List.getElem?_set_ne (fun z => h0 j u e z.symm)]; exact e)
    have pin' : ∀ b ∈ fp, ∀ o, s2.heap.get? b = some o → s5.heap.get? b = some o ∧ H5 b = none := fun b hb o e =>
      let z := I5.pin (b, o) (List.mem_append_right _ (List.mem_append_right _ (mem_pinsAt hb e)))
      ⟨z.1, z.2.1⟩
    have st5 : tn (i + 1) s5.heap := T.keep _ _ _ st2 fun b hb o e => (pin' b hb o e).1
    have n5 : ∀ b ∈ fp, H5 b = none := fun b hb => by
      obtain ⟨o, e, _⟩ := T.obj _ _ st2 b hb
      exact (pin' b hb o e).2
    refine seg_at (seg_yield rfl rfl rfl ⟨z5, b, _, H5, rfl, I6, wf, fun hb s' sl => ?_⟩)
    exact seg_again rfl (ih (i + 1) s' s' H5 (by omega) (I6.slept sl) (by rw [sl.hp]; exact st5) n5 (wt hb) (Nat.lt_of_lt_of_le z5 sl.sz))
end
/-- the generator's scope: its one name, and names of the def around it -/
structure GeF (X : Cx) (scope : Scope) (x : Str) : Prop where
  kind : scope.kind = .function
  co : scope.isCoroutine = false
  cell : ∀ y ∈ scope.names, y.2 ≠ .cell
  free : ∀ y ∈ scope.names, y.2 = .free → X.env.kindOf y.1 = some .cell ∨ X.env.kindOf y.1 = some .free
  dot : scope.names.lookup (".0" : Str) = some NameKind.local
  loc : scope.names.lookup x = some .local
theorem geFree {X : Cx} {scope sc : Scope} (e : X.env.scope = sc) (h : ∀ y ∈ scope.names, y.2 = .free → sc.names.lookup y.1 = some .cell) : ∀ y ∈ scope.names, y.2 = .free → X.env.kindOf y.1 = some .cell ∨ X.env.kindOf y.1 = some .free := fun y hy k => .inl (by
  show X.env.scope.names.lookup y.1 = _
  rw [e]
  exact h y hy k)
theorem GeF.cells {X : Cx} {scope : Scope} {x : Str} (S : GeF X scope x) (ok : X.Ok) : ∀ y ∈ scope.names, y.2 = .free → ∃ c, X.env.cells.lookup y.1 = some c := fun y hy e => ok.has y.1 (S.free y hy e)
def capS (N : List Str) (iy : Nat) (v : V) : L2.St := (noneS N).set iy (some v)
theorem capS_len (N : List Str) (iy : Nat) (v : V) : (capS N iy v).length = N.length := by unfold capS noneS; rw [List.length_set, List.length_replicate]
theorem capS_at {N : List Str} {iy j : Nat} {v u : V} (h : (capS N iy v)[j]? = some (some u)) : j = iy ∧ u = v := by
  unfold capS at h
  by_cases e : j = iy
  · subst e
    refine ⟨rfl, ?_⟩
    rw [List.getElem?_set] at h
    split at h
    · split at h
      · cases h; rfl
      · cases h
    · exact absurd rfl (by assumption)
  · rw [List.getElem?_set_ne (fun z => e z.symm)] at h
    unfold noneS at h
    rw [List.getElem?_replicate] at h
    split at h <;> cases h
/-- its context at the start -/
theorem ge_startF {X : Cx} {pins : List (Addr × Obj)} {σ : L2.St} {H : Hp} {s : Shared} {scope : Scope} {x y : Str} {iy : Nat} {v : V} {fp : List Addr} {A : Around} {code : Value} {m : Str → Option Value} {h' : Heap} {g' : Array GenState} {t' : Nat} {go : Obj}
    (I : L2.Inv X pins σ H s) (S : GeF X scope x) (hN : X.N[iy]? = some y) (hv : σ[iy]? = some (some v)) (hyf : (y, NameKind.free) ∈ scope.names) (hyl : scope.names.lookup y = some .free) (hA : A.handled = none) (hfr : A.frames = some (genEnv scope (cloFrom X.env.cells scope.names []) s.heap.objs.size code builtinsNs X.env :: X.stack)) (hfp : ∀ b ∈ fp, FpOk X pins H b ∧ b < s.heap.objs.size)
    (hn : h'.Ns s.heap.objs.size m) (hk : ∀ b o, s.heap.get? b = some o → h'.get? b = some o) (hsz : h'.objs.size = s.heap.objs.size + 1) (hfree : go.isFreed = false) (hgo : ∀ v, go.data ≠ .cell v) (hg : AllBare g') :
    L2.Inv (gxX X s H (genEnv scope (cloFrom X.env.cells scope.names []) s.heap.objs.size code builtinsNs X.env) fp A) [(h'.objs.size, go)] (capS X.N iy v) H { s with heap := h'.push go, gens := g', toks := t' } := by
  have kp : ∀ b o, s.heap.get? b = some o → (h'.push go).get? b = some o := fun b o e => Heap.get?_push_of_some _ (hk b o e)
  have ge : s.heap.objs.size ≤ h'.objs.size := by rw [hsz]; exact Nat.le_succ _
  have sub : ∀ z c, (cloFrom X.env.cells scope.names []).lookup z = some c → X.env.cells.lookup z = some c := fun z c e => clo_cm (S.cells I.ok) e
  have okG : (gxX X s H (genEnv scope (cloFrom X.env.cells scope.names []) s.heap.objs.size code builtinsNs X.env) fp A).Ok := by
    refine ⟨I.ok.mod, S.kind, I.ok.glob, rfl, Nat.le_refl _, fun y z c e1 e2 => I.ok.inj y z c (sub _ _ e1) (sub _ _ e2), fun y hy => ?_, fun y c z e => ?_, fun _ => hA, hfr, .inr ⟨rfl, rfl⟩, fun b hb => ⟨Nat.ne_of_lt (hfp b hb).2, fun y c e z => ?_⟩, I.bs, Nat.le_trans I.ok.bsz I.sz, fun b o e hb => ?_, fun b hb z => ?_, I.stack, I.stkFree⟩
    · rcases hy with hy | hy
      · exact absurd rfl (S.cell _ (PySem.mem_of_lookup hy))
      · have hm := PySem.mem_of_lookup hy
        obtain ⟨c, hc⟩ := S.cells I.ok _ hm rfl
        exact ⟨c, clo_has (S.cells I.ok) hm hc⟩
    · cases z
    · exact (hfp b hb).1.2.2.2.2.1 y c (sub _ _ e) z
    · rcases (hfp b hb).1.2.2.2.1 with z | z
      · exact I.ok.noex b o e z
      · exact absurd (Nat.lt_of_lt_of_le (Heap.lt_size e) (Nat.le_trans I.ok.bsz z)) (Nat.lt_irrefl _)
    · rcases List.mem_cons.mp (I.stkSub b z) with z | z
      · exact (hfp b hb).1.2.1 z
      · exact (hfp b hb).1.2.2.1 z
  refine ⟨okG, rfl, hg, Un.kept kp, ⟨m, hn.push _, fun i z av e1 e2 e3 => ?_⟩, fun y c e => ?_, I.hok.fresh (Nat.le_refl _), fun y c e => I.freeC y c (sub _ _ e), fun p hp => ?_, I.hok.kept kp, capS_len ..⟩
  · obtain ⟨rfl, rfl⟩ := capS_at e2
    have e1 : X.N[i]? = some z := e1
    rw [hN] at e1
    cases e1
    obtain ⟨m0, _, lk⟩ := I.loc
    have kx := S.free _ hyf rfl
    obtain ⟨u, ru, lku⟩ := lk i y av hN hv (by rcases kx with q | q; exact .inr (.inl q); exact .inr (.inr q))
    rcases lku with ⟨q, _⟩ | ⟨_, c, hc, ic⟩
    · rcases kx with k | k
      · rw [q] at k; cases k
      · rw [q] at k; cases k
    · exact ⟨u, ru, .inr ⟨.inr hyl, c, clo_has (S.cells I.ok) hyf hc, let ⟨o, e, d⟩ := ic; ⟨o, kp _ _ e, d⟩⟩⟩
  · obtain ⟨w, q⟩ := I.cell y c (sub _ _ e)
    exact ⟨w, let ⟨o, e, d⟩ := q; ⟨o, kp _ _ e, d⟩⟩
  · have e : p = (h'.objs.size, go) := by simpa using hp
    subst e
    refine ⟨Heap.get?_push_size _ hfree, I.hok.fresh ge, ?_, ?_, hgo⟩
    · show h'.objs.size ≠ s.heap.objs.size
      rw [hsz]
      exact Nat.succ_ne_self _
    · intro z
      rcases List.mem_cons.mp (I.stkSub _ z) with z | z
      · have := I.lt
        rw [← z] at this
        exact absurd (Nat.lt_of_lt_of_le this ge) (Nat.lt_irrefl _)
      · exact I.nofs ge z
/-- all(test for x in ..): W what stands ahead of turn i, of N -/
def tAllF (P : Addr) (NS : List Str) (ix iy : Nat) (wi : TI) (te : TE) : TE := fun σ H Q => ∃ v0, σ[iy]? = some (some v0) ∧ wi σ H fun J H1 => GxR.TabG H1 P ∧ ∃ (N : Nat) (W : Nat → Hp → Prop), (∀ H2, GxR.Tabbed P H1 H2 → W 0 H2) ∧ (∀ H, W N H → J.stop N H ∧ Q (.bl true) H) ∧
  ∀ i H, i < N → W i H → J.go i H ∧ ∀ v H', J.yld i H v H' → te ((capS NS iy v0).set ix (some v)) H' fun y H2 => ∃ b, y = .bl b ∧ (b = true → W (i + 1) H2) ∧ (b = false → Q (.bl false) H2)
theorem pe_allF {X : Cx} {c P : Addr} {elt iter : Expr} {x : Str} {px p pos gpos : Pos} {scope : Scope} {wi : TI} {te : TE} {k ix iy : Nat} {y : Str} (hc : X.calm = true) (hN : X.N.Nodup) (hi : X.N[ix]? = some x) (hr : Room (k + 1) X.A) (hg : Gl X "all") (hm : X.mg "all" = none)
    (hb : bootBuiltins "all" = some (.builtin "all")) (TB : GxR.TabB X.base X.mg c P) (hcode : X.env.code = .ref c) (S : GeF X scope x) (hNy : X.N[iy]? = some y) (hyf : (y, NameKind.free) ∈ scope.names) (hyl : scope.names.lookup y = some .free) (hxy : ix ≠ iy) (hit : PI X (.Name x px) iter wi)
    (hel : ∀ (s : Shared) (H : Hp) (C : Addr) (code : Value) (fp : List Addr) (A : Around), Room k A → PE (gxX X s H (genEnv scope (cloFrom X.env.cells scope.names []) C code builtinsNs X.env) fp A) elt te)
    (hs : ∀ v, genFold iter X.env v = pure v)
    (he : starEach [geE elt iter x px scope gpos] X.env = (false, eval (geE elt iter x px scope gpos) X.env) :: starEach [] X.env := by rfl) :
    PE X (.Call (.Name "all" p) [geE elt iter x px scope gpos] [] pos) (tAllF P X.N ix iy wi te) := by
  refine ⟨fun pins s σ H Q I h => ?_⟩
  refine wpAny_Call_Name_kw (ld_blt I hg hm hb ?_)
  refine PyProof.Rows.callWith_builtin1 ?_ he (by rfl)
  rw [he]
  show wpAny _ _ (spliced ((false, eval (geE elt iter x px scope gpos) X.env) :: backTo pos (starEach [] X.env))) _ _ s
  refine Calls.spliced_cons ?_
  obtain ⟨v0, hv0, h⟩ := h
  have hcl : closureFor scope X.env = pure (cloFrom X.env.cells scope.names []) := closure_ok (env := X.env) (S.cells I.ok)
  refine wpAny_GeneratorExp_make S.co hcl S.cell S.dot S.kind (by have := hr.dp; omega) ?_ hs
  refine thn (hit.run pins s σ H _ I h) fun xv s1 hx => thn hx fun itv s2 h2 => ?_
  obtain ⟨it, fp, tn, J, H2, rfl, I2, T, st2, f2, ⟨ps, hP, ht⟩, N, W, w0, hstop, hgo⟩ := h2
  refine ⟨I2.nolimit, ?_⟩
  have hPs : s2.heap.get? P = some { cls := .none, data := .fields ps } := I2.hok P _ hP
  have cd : PySem.W.CodeHd s2.heap c P := TB.code.keeps fun b u e => I2.bk b u e
  have cont : ∀ (code : Value) (h3 : Heap) (tk : Nat) (ps' : Array Value), Heap.ExtBut P s2.heap h3 → s2.heap.objs.size ≤ h3.objs.size → h3.get? P = some { cls := .none, data := .fields ps' } → (∃ more, ps' = ps ++ more) → TriplesOk ps'.toList →
      wpAny (model X.prog X.w) X.A (builtinsFor X.env.globals X.env.builtins) (fun bi s₄ =>
        ∀ h', h'.Ns s₄.heap.objs.size (fun y => if y = ".0" then some (.ref it) else none) → Heap.SameBut s₄.heap.objs.size (s₄.heap.push { cls := .type "frame", data := .dict #[] }) h' →
          wpAny (model X.prog X.w) X.A (spliced (backTo pos (starEach [] X.env))) (fun vs s' => wpAny (model X.prog X.w) X.A (call (.builtin "all") (Value.ref h'.objs.size :: vs)) (EP X pins σ Q) X.xe s') X.xe
          { s₄ with
            gens := s₄.gens.push (.fresh (.compStart (geE elt iter x px scope gpos) 0 (.ref it) .none (genEnv scope (cloFrom X.env.cells scope.names []) s₄.heap.objs.size code bi X.env))),
            toks := s₄.toks + 1 + 1 + 1,
            heap := h'.push { cls := .type "generator", data := .fields #[.int s₄.gens.size 0, .str "<genexpr>" (s₄.toks + 1), .str (X.env.qual ++ "<genexpr>") (s₄.toks + 1 + 1)] } }) X.xe { s2 with heap := h3, toks := tk } := by
    intro code h3 tk ps' hx hsz hP3 ⟨more, em⟩ ht3
    obtain ⟨bm, ob, e1, e2, e3, e4, e5, e6, e7, e8⟩ := TB.bm
    have keep3 : ∀ b u, b ≠ P → s2.heap.get? b = some u → h3.get? b = some u := fun b u hb e => hx b u hb e
    refine wpAny_builtinsFor (m := X.mg) (by rw [I2.ok.glob]; exact (I2.mod.glob.keeps I2.bk).extBut hx TB.gP) e1 e2 (keep3 _ _ e4 (I2.bk _ _ e5)) e6 e7 e8 ?_
    intro h' hn' hs'
    subst em
    have I4 : L2.Inv X pins σ (upd H2 P (.tbl (ps ++ more))) { s2 with heap := h3, gens := s2.gens, drawn := s2.drawn, toks := tk } := GxR.inv_tab I2 hP keep3 hP3 I2.bare
    have fl : ∀ b ∈ fp, b < s2.heap.objs.size := fun b hb => by
      obtain ⟨o, e, _⟩ := T.obj _ _ st2 b hb
      exact Heap.lt_size e
    have fP : ∀ b ∈ fp, b ≠ P := fun b hb z => by
      have := (f2 b hb).1
      rw [z, hP] at this
      cases this
    have f4 : ∀ b ∈ fp, FpOk X pins (upd H2 P (.tbl (ps ++ more))) b ∧ b < h3.objs.size := fun b hb => ⟨⟨by rw [upd_ne (fP b hb)]; exact (f2 b hb).1, (f2 b hb).2⟩, Nat.lt_of_lt_of_le (fl b hb) hsz⟩
    have hs1 : h'.objs.size = h3.objs.size + 1 := by
      have := hs'.1
      rw [this]
      exact Heap.size_push ..
    have kh : ∀ b o, h3.get? b = some o → h'.get? b = some o := fun b o e => hs'.extBut b o (Nat.ne_of_lt (Heap.lt_size e)) (Heap.get?_push_of_some _ e)
    have IG := ge_startF (A := X.A.in1.in1.over (geC elt iter x px scope gpos it (genEnv scope (cloFrom X.env.cells scope.names []) h3.objs.size code builtinsNs X.env)) []) (code := code) (x := x) (scope := scope) (t' := tk + 1 + 1 + 1) (g' := s2.gens.push (.fresh (.compStart (geE elt iter x px scope gpos) 0 (.ref it) .none (genEnv scope (cloFrom X.env.cells scope.names []) h3.objs.size code builtinsNs X.env))))
      (go := { cls := .type "generator", data := .fields #[.int s2.gens.size 0, .str "<genexpr>" (tk + 1), .str (X.env.qual ++ "<genexpr>") (tk + 1 + 1)] }) I4 S hNy hv0 hyf hyl hr.hd (by
        show pushEnvs [genEnv scope (cloFrom X.env.cells scope.names []) h3.objs.size code builtinsNs X.env] (pushEnvs [] X.A.frames) = _
        rw [I2.ok.frames]
        rfl) f4 hn' kh hs1 rfl (fun v z => by cases z) (I2.bare.push rfl)
    refine Calls.spliced_nil ?_
    have back : ∀ (σ' : L2.St) (H' : Hp) (s' : Shared), L2.Inv (gxX X { s2 with heap := h3, gens := s2.gens, drawn := s2.drawn, toks := tk } (upd H2 P (.tbl (ps ++ more))) (genEnv scope (cloFrom X.env.cells scope.names []) h3.objs.size code builtinsNs X.env) fp (X.A.in1.in1.over (geC elt iter x px scope gpos it (genEnv scope (cloFrom X.env.cells scope.names []) h3.objs.size code builtinsNs X.env)) []))
        [(h'.objs.size, { cls := .type "generator", data := .fields #[.int s2.gens.size 0, .str "<genexpr>" (tk + 1), .str (X.env.qual ++ "<genexpr>") (tk + 1 + 1)] })] σ' H' s' → L2.Inv X pins σ H' s' := fun σ' H' s' I' =>
      I4.call' (ch := fp) I'.os I'.base I'.hok I'.bare fun b hb => ⟨(f4 b hb).1.2.2.2.1, (f4 b hb).1.2.1, (f4 b hb).1.2.2.2.2.1, (f4 b hb).1.2.2.2.2.2⟩
    have room : Room k (X.A.in1.in1.over (geC elt iter x px scope gpos it (genEnv scope (cloFrom X.env.cells scope.names []) h3.objs.size code builtinsNs X.env)) []) := by
      have e1 : (X.A.in1.in1.over (geC elt iter x px scope gpos it (genEnv scope (cloFrom X.env.cells scope.names []) h3.objs.size code builtinsNs X.env)) []).depth = X.A.depth + 1 := rfl
      have e2 : (X.A.in1.in1.over (geC elt iter x px scope gpos it (genEnv scope (cloFrom X.env.cells scope.names []) h3.objs.size code builtinsNs X.env)) []).units ≤ X.A.units + 5 := Nat.le_of_eq rfl
      have r1 := hr.dp
      have r2 := hr.un
      exact ⟨hr.hd, by rw [e1]; omega, by omega⟩
    have st5 : tn 0 (h'.push { cls := .type "generator", data := .fields #[.int s2.gens.size 0, .str "<genexpr>" (tk + 1), .str (X.env.qual ++ "<genexpr>") (tk + 1 + 1)] }) := T.keep _ _ _ st2 fun b hb o e => Heap.get?_push_of_some _ (kh b o (keep3 b o (fP b hb) e))
    have hgen : ∀ h : Heap, h.get? h'.objs.size = some { cls := .type "generator", data := .fields #[.int s2.gens.size 0, .str "<genexpr>" (tk + 1), .str (X.env.qual ++ "<genexpr>") (tk + 1 + 1)] } → h.IsGen h'.objs.size s2.gens.size := fun h e => ⟨_, _, _, e, rfl, rfl, rfl⟩
    have hga : h'.objs.size ∉ fp := fun z => by
      have := (f4 _ z).2
      rw [hs1] at this
      exact absurd (Nat.lt_trans (Nat.lt_succ_self _) this) (Nat.lt_irrefl _)
    refine call_function_tree F.kind_all F.plain_all F.entry_all (F.args_all1 _) ?_
    unfold Builtin.«all»
    refine wpAny_bind (m := oneArg "all" _) (wpAny_pure ?_)
    refine wpAny_bind (wpAny_pyIter_gen (g := s2.gens.size) (hgen _ (Heap.get?_push_size _ rfl)) ?_)
    refine wpAny_pure ⟨plainId_quiet F.plain_all_loop _, ?_⟩
    refine loop_all (G := gxX X { s2 with heap := h3, gens := s2.gens, drawn := s2.drawn, toks := tk } (upd H2 P (.tbl (ps ++ more))) (genEnv scope (cloFrom X.env.cells scope.names []) h3.objs.size code builtinsNs X.env) fp (X.A.in1.in1.over (geC elt iter x px scope gpos it (genEnv scope (cloFrom X.env.cells scope.names []) h3.objs.size code builtinsNs X.env)) []))
      (Qt := fun H => Q (.bl true) H) (Qf := fun H => Q (.bl false) H) hr.hd (by have := hr.dp; omega) hgen (fun σ' H' s' I' q' => ⟨.bl true, H', back σ' H' s' I', rfl, q'⟩) (fun σ' H' s' I' q' => ⟨.bl false, H', back σ' H' s' I', rfl, q'⟩) N _ ⟨hgen _ (Heap.get?_push_size _ rfl), IG.nolimit, I2.bare.push rfl, _, Array.getElem?_push_size .., fun s' sl => ⟨rfl, ?_⟩⟩
    have sz' : s2.gens.size < s'.gens.size := by
      have := sl.sz
      have e : (s2.gens.push (.fresh (.compStart (geE elt iter x px scope gpos) 0 (.ref it) .none (genEnv scope (cloFrom X.env.cells scope.names []) h3.objs.size code builtinsNs X.env)))).size = s2.gens.size + 1 := Array.size_push ..
      exact Nat.lt_of_lt_of_le (Nat.lt_of_lt_of_le (Nat.lt_succ_self _) (Nat.le_of_eq e.symm)) this
    have st6 : tn 0 s'.heap := by rw [sl.hp]; exact st5
    exact seg_start T st6 (seg_geF (G := gxX X { s2 with heap := h3, gens := s2.gens, drawn := s2.drawn, toks := tk } (upd H2 P (.tbl (ps ++ more))) (genEnv scope (cloFrom X.env.cells scope.names []) h3.objs.size code builtinsNs X.env) fp (X.A.in1.in1.over (geC elt iter x px scope gpos it (genEnv scope (cloFrom X.env.cells scope.names []) h3.objs.size code builtinsNs X.env)) []))
      (ix := ix) (σ0 := capS X.N iy v0) (fun j u e => by rw [(capS_at e).1]; exact fun z => hxy z.symm) (capS_len ..) ⟨hc, rfl, rfl, rfl, rfl, rfl⟩ hN hi S.loc rfl S.co T hga (hel _ _ _ _ _ _ room) hstop hgo N 0 s' s' _ (Nat.zero_add N) (IG.slept sl) st6 (fun b hb => (f4 b hb).1.1) (w0 _ ⟨⟨ps ++ more, upd_same, ht3⟩, fun b hb => upd_ne hb⟩) sz')
  cases hf : codeAmong gpos ps.toList with
  | none =>
    refine wpAny_genexprCodeX hcode (cd.code hPs ht) (cd.tab hPs) hf fun c' h' tk hx hge hlt hco' _ htab' _ => ?_
    obtain ⟨o1, vs, f1, tf, fl, tg, inF, tx, tt, op, _, _, _, _, _, _, _, _, _, htr, _⟩ := hco'
    exact cont _ h' tk _ hx (Nat.le_trans hge (Nat.le_of_lt hlt)) htab'.2 ⟨_, rfl⟩ htr
  | some cv =>
    refine wpAny_genexprCode_hit hcode (cd.code hPs ht) hf ?_
    exact cont cv s2.heap s2.toks ps (Heap.ExtBut.refl _ _) (Nat.le_refl _) hPs ⟨#[], by simp⟩ ht
end Tw

/-! A rule's text: figures, words; defs that hold a generator expression. -/
namespace Tw
open PySem PySem.Spec PyProof.Rows L2
open SX (S)
/-! ### a def whose code object is known -/
def TopC (K : PySem.W.Frag) (mg : Str → Option Value) (x : Str) (st : Stmt) (ps : List Str) (c : Addr) : Prop :=
  ∃ (f : Addr) (oc : Value) (od : Option Addr) (kV doc pm : Value) (an : Option Addr) (ct : Value) (osl : Array (Option Value)), K.lookup f = some ⟨oc, od, .func (PySem.W.fnOf x x (defArgs st) (defBody st) (defScope st) .none kV doc pm an (.ref c) ct), osl⟩ ∧ PySem.W.codeIn K (.ref c) x = true ∧ PySem.W.keepIn K (.ref f) = true ∧ mg x = some (.ref f) ∧
    Binds K (PySem.W.fnOf x x (defArgs st) (defBody st) (defScope st) .none kV doc pm an (.ref c) ct) ps []
theorem topC_mk {K : PySem.W.Frag} {h : Heap} {mg : Str → Option Value} {x : Str} {st : Stmt} {ps : List Str} {f c : Addr} {oc : Value} {od an : Option Addr} {sl : Array (Option Value)} {kV dc pm ct : Value} (X : K.In h) (G : h.Ns mainGlobals mg)
    (a : PySem.W.nsIn K mainGlobals x = some (some (.ref f))) (l : K.lookup f = some ⟨oc, od, .func (PySem.W.fnOf x x (defArgs st) (defBody st) (defScope st) .none kV dc pm an (.ref c) ct), sl⟩) (cd : PySem.W.codeIn K (.ref c) x = true) (k : PySem.W.keepIn K (.ref f) = true)
    (hb : ∀ (kV doc pm : Value) (an : Option Addr) (cdv ct : Value) (us : List Value), us.length = ps.length → bindArgs (PySem.W.fnOf x x (defArgs st) (defBody st) (defScope st) .none kV doc pm an cdv ct) ⟨us, []⟩ = pure (ps.zip us)) : TopC K mg x st ps c :=
  ⟨f, oc, od, kV, dc, pm, an, ct, sl, l, cd, k, PySem.W.mg_of X G a, .all (hb kV dc pm an (.ref c) ct)⟩
section
variable {P : Program} {w : World} {K : PySem.W.Frag} {mg : Str → Option Value} {base : Heap} {x : Str} {st : Stmt} {N : List Str} {k : Nat} {c : Addr}
theorem TopC.ok1 {a : Str} {p : V → Hp → VK → XK → Prop} (D : TopC K mg x st [a] c) (Sc : FnScope N [a] (defScope st))
    (hbody : ∀ (f : Addr) (A : Around) (outer : List Env) (s : Shared) (H : Hp) (v1 : V) (Q : VK) (E : XK), Room k (A.deeper (envOfC x (defScope st) s.heap.objs.size f (.ref c))) → p v1 H Q E →
      ∃ t, PSs (cxOf CX0 P w K mg base N x (defScope st) f (.ref c) A outer s H E).nox (defBody st) t ∧ t { nx := fun _ H' => Q .non H', rt := Q } (start N [v1]) H) : Has P w K mg base CX0 (k + 1) x [a] (sp1 p) := by
  obtain ⟨f, oc, od, kV, doc, pm, an, ct, osl, lk, hcd, kp, g, b⟩ := D
  refine ⟨f, _, fn_of lk hcd Sc (fun vs H Q E h => by obtain ⟨_, rfl, _⟩ := h; rfl) fun A outer s H vs Q E hr h => ?_, g, kp, b, oc, od, osl, lk⟩
  obtain ⟨v1, rfl, h⟩ := h
  obtain ⟨t, h, q⟩ := hbody f A outer s H v1 Q E hr h
  exact ⟨t, h.nox, q⟩
theorem TopC.ok1X {a : Str} {p : V → Hp → VK → XK → Prop} (D : TopC K mg x st [a] c) (Sc : FnScope N [a] (defScope st))
    (hbody : ∀ (f : Addr) (A : Around) (outer : List Env) (s : Shared) (H : Hp) (v1 : V) (Q : VK) (E : XK), Room k (A.deeper (envOfC x (defScope st) s.heap.objs.size f (.ref c))) → p v1 H Q E →
      ∃ t, PSs (cxOf (L2.CX P w) P w K mg base N x (defScope st) f (.ref c) A outer s H E) (defBody st) t ∧ t { nx := fun _ H' => Q .non H', rt := Q } (start N [v1]) H) : Has P w K mg base (L2.CX P w) (k + 1) x [a] (sp1 p) := by
  obtain ⟨f, oc, od, kV, doc, pm, an, ct, osl, lk, hcd, kp, g, b⟩ := D
  refine ⟨f, _, fn_of lk hcd Sc (fun vs H Q E h => by obtain ⟨_, rfl, _⟩ := h; rfl) fun A outer s H vs Q E hr h => ?_, g, kp, b, oc, od, osl, lk⟩
  obtain ⟨v1, rfl, h⟩ := h
  exact hbody f A outer s H v1 Q E hr h
end
/-! ### figures -/
def dig (c : Nat) : Bool := decide (48 ≤ c) && decide (c ≤ 57)
def figs (l : List Nat) : Bool := !l.isEmpty && l.all dig && (decide (l = [48]) || decide (l.head? ≠ some 48))
abbrev tenS : List Nat := [48, 49, 50, 51, 52, 53, 54, 55, 56, 57]
theorem dig_in (c : Nat) : decide (c ∈ tenS) = dig c := by
  unfold dig
  rw [Bool.eq_iff_iff, decide_eq_true_eq, Bool.and_eq_true, decide_eq_true_eq, decide_eq_true_eq]
  constructor
  · intro h
    simp only [tenS, List.mem_cons, List.not_mem_nil, or_false] at h
    omega
  · intro h
    simp only [tenS, List.mem_cons, List.not_mem_nil, or_false]
    omega
def pFig (P : Addr) : V → Hp → VK → XK → Prop := fun a H Q _ => ∃ l : List Nat, a = .str (S l) ∧ l.length ≤ 100000 ∧ GxR.TabG H P ∧ ∀ H', GxR.Tabbed P H H' → Q (.bl (figs l)) H'
theorem tabbed_refl {P : Addr} {H : Hp} (h : GxR.TabG H P) : GxR.Tabbed P H H := ⟨h, fun _ _ => rfl⟩
theorem tabbed_trans {P : Addr} {H H1 H2 : Hp} (a : GxR.Tabbed P H H1) (b : GxR.Tabbed P H1 H2) : GxR.Tabbed P H H2 := ⟨b.1, fun c hc => (b.2 c hc).trans (a.2 c hc)⟩
/-! ### words -/
def wds (a : List Nat) : List (List Nat) := TL.spl [32] 0 [] a
theorem split_wds (a : List Nat) : Txt.split (S a) (Str.ofString " ") = (wds a).map S := by
  have e : Str.ofString " " = S [32] := by decide
  rw [e]
  exact SX.split_S (by simp) (by decide)
theorem spl_len (b : List Nat) : ∀ (l : List Nat) (k : Nat) (acc : List Nat), ∀ w ∈ TL.spl b k acc l, w.length ≤ acc.length + l.length
  | [], k, acc, w, h => by
    have e : TL.spl b k acc [] = [acc] := by cases k <;> rfl
    rw [e, List.mem_singleton] at h
    rw [h]
    exact Nat.le_add_right _ _
  | c :: r, 0, acc, w, h => by
    unfold TL.spl at h
    by_cases z : TL.pre b (c :: r) = true
    · rw [if_pos z] at h
      rcases List.mem_cons.mp h with e | e
      · rw [e]; exact Nat.le_add_right _ _
      · have := spl_len b r _ [] w e
        have e1 : ([] : List Nat).length = 0 := rfl
        have e2 : (c :: r).length = r.length + 1 := rfl
        omega
    · rw [if_neg z] at h
      have := spl_len b r _ _ w h
      rw [List.length_append] at this
      have e1 : [c].length = 1 := rfl
      have e2 : (c :: r).length = r.length + 1 := rfl
      omega
  | c :: r, k + 1, acc, w, h => by
    unfold TL.spl at h
    have := spl_len b r k acc w h
    have e2 : (c :: r).length = r.length + 1 := rfl
    omega
theorem wds_len {a w : List Nat} (h : w ∈ wds a) : w.length ≤ a.length := by
  have := spl_len [32] a 0 [] w h
  have e1 : ([] : List Nat).length = 0 := rfl
  omega
def vl (l : List Nat) : Int := ((NumText.digitsVal l : Nat) : Int)
theorem figs_int {l : List Nat} (h : figs l = true) (hl : l.length ≤ 4300) : intText? (S l) = some (vl l) := by
  unfold figs at h
  rw [Bool.and_eq_true, Bool.and_eq_true] at h
  refine SX.int_S h.1.2 ?_ hl
  intro z
  rw [z] at h
  exact absurd h.1.1 (by decide)
/-- the rule that a text tells -/
def readR (a : List Nat) : Option (Int × Int × Int) := match wds a with
  | [x, y, z] => if (figs x && figs y && figs z) = true then (if vl z ≤ vl x ∨ vl z ≤ vl y then none else some (vl x, vl y, vl z)) else none
  | _ => none
/-- but for two tables all that stood stands -/
structure Grow (P1 P2 : Addr) (H H' : Hp) : Prop where
  t1 : GxR.TabG H' P1
  t2 : GxR.TabG H' P2
  keep : ∀ b o, b ≠ P1 → b ≠ P2 → H b = some o → H' b = some o
theorem Grow.refl {P1 P2 : Addr} {H : Hp} (a : GxR.TabG H P1) (b : GxR.TabG H P2) : Grow P1 P2 H H := ⟨a, b, fun _ _ _ _ e => e⟩
theorem Grow.trans {P1 P2 : Addr} {H H1 H2 : Hp} (a : Grow P1 P2 H H1) (b : Grow P1 P2 H1 H2) : Grow P1 P2 H H2 := ⟨b.t1, b.t2, fun c o n1 n2 e => b.keep c o n1 n2 (a.keep c o n1 n2 e)⟩
theorem tabG_same {P : Addr} {H H' : Hp} (h : GxR.TabG H P) (s : Same H H') : GxR.TabG H' P := by
  obtain ⟨ps, e, t⟩ := h
  exact ⟨ps, s _ _ e, t⟩
theorem Grow.same {P1 P2 : Addr} {H H1 H2 : Hp} (a : Grow P1 P2 H H1) (s : Same H1 H2) : Grow P1 P2 H H2 := ⟨tabG_same a.t1 s, tabG_same a.t2 s, fun c o n1 n2 e => s _ _ (a.keep c o n1 n2 e)⟩
theorem tabG_ne {P b : Addr} {H : Hp} {o : HO} (h : GxR.TabG H P) (e : H b = some o) (n : ∀ ps, o ≠ .tbl ps) : b ≠ P := by
  obtain ⟨ps, e2, _⟩ := h
  intro z
  rw [z, e2] at e
  exact n ps (Option.some.inj e).symm
theorem Grow.get {P1 P2 b : Addr} {H H' : Hp} {o : HO} (a : Grow P1 P2 H H') (h1 : GxR.TabG H P1) (h2 : GxR.TabG H P2) (e : H b = some o) (n : ∀ ps, o ≠ .tbl ps) : H' b = some o :=
  a.keep b o (tabG_ne h1 e n) (tabG_ne h2 e n) e
def pRead (P1 P2 CU : Addr) : V → Hp → VK → XK → Prop := fun v H Q E => ∃ a : List Nat, v = .str (S a) ∧ a.length ≤ 640 ∧ GxR.TabG H P1 ∧ GxR.TabG H P2 ∧
  (∀ t p m, readR a = some (t, p, m) → ∀ H' q, Grow P1 P2 H H' → H q = none → H' q = some (.tup [.int t, .int p, .int m]) → Q (.ref q) H') ∧ (readR a = none → ∀ H', Grow P1 P2 H H' → E (.ref CU) none H')
/-! ### a rule's own text -/
theorem numL_head {n : Nat} (h : 0 < n) : (TL.numL n).head? ≠ some 48 := by
  induction n using Nat.strongRecOn with
  | ind n ih =>
    by_cases c : n < 10
    · rw [TL.numL_lt c]
      intro z
      have := Option.some.inj z
      omega
    · rw [TL.numL_step (by omega)]
      have := ih (n / 10) (by omega) (by omega)
      cases e : TL.numL (n / 10) with
      | nil => exact absurd e (TL.numL_ne _)
      | cons a r =>
        rw [e] at this
        exact this
theorem figs_num (n : Nat) : figs (TL.numL n) = true := by
  unfold figs
  have h1 : (TL.numL n).isEmpty = false := by
    cases e : TL.numL n with
    | nil => exact absurd e (TL.numL_ne n)
    | cons a r => rfl
  have h2 : (TL.numL n).all dig = true := by
    rw [List.all_eq_true]
    intro c hc
    have := TL.numL_digits n c hc
    unfold dig
    rw [decide_eq_true this.1, decide_eq_true this.2]
    rfl
  rw [h1, h2]
  by_cases z : n = 0
  · subst z
    rw [TL.numL_lt (by decide)]
    rfl
  · rw [decide_eq_true (numL_head (by omega)), Bool.or_true]
    rfl
theorem vl_num (n : Nat) : vl (TL.numL n) = n := by
  unfold vl
  rw [TL.numL_val]
def shw (t p m : Int) : List Nat := TL.numL t.toNat ++ [32] ++ TL.numL p.toNat ++ [32] ++ TL.numL m.toNat
theorem wds_shw (t p m : Int) : wds (shw t p m) = [TL.numL t.toNat, TL.numL p.toNat, TL.numL m.toNat] := by
  have e : shw t p m = TL.joinL [32] [TL.numL t.toNat, TL.numL p.toNat, TL.numL m.toNat] := by
    unfold shw
    simp [TL.joinL]
  unfold wds
  rw [e]
  refine SX.spl_join (by simp) fun q hq => ?_
  simp only [List.mem_cons, List.not_mem_nil, or_false] at hq
  rcases hq with rfl | rfl | rfl <;> exact TL.numL_free (.inl (by decide))
theorem read_shw {t p m : Int} (R : Rule t p m) : readR (shw t p m) = some (t, p, m) := by
  unfold readR
  rw [wds_shw]
  have a1 := R.t0
  have a2 := R.t1
  have a3 := R.p0
  have a4 := R.p1
  show (if (figs (TL.numL t.toNat) && figs (TL.numL p.toNat) && figs (TL.numL m.toNat)) = true then _ else _) = _
  rw [figs_num, figs_num, figs_num, vl_num, vl_num, vl_num]
  show (if ((m.toNat : Nat) : Int) ≤ ((t.toNat : Nat) : Int) ∨ ((m.toNat : Nat) : Int) ≤ ((p.toNat : Nat) : Int) then none else some (((t.toNat : Nat) : Int), ((p.toNat : Nat) : Int), ((m.toNat : Nat) : Int))) = _
  rw [if_neg (by omega), Int.toNat_of_nonneg a1, Int.toNat_of_nonneg a3, Int.toNat_of_nonneg (by omega)]
theorem shw_len {t p m : Int} (R : Rule t p m) : (shw t p m).length ≤ 100 := by
  have a1 := R.t0
  have a2 := R.t1
  have a3 := R.p0
  have a4 := R.p1
  have a5 := R.b2
  have k : ∀ n : Nat, (n : Int) ≤ 1000000000000 → (TL.numL n).length ≤ 13 := fun n hn => TL.numL_len (by decide) (by
    have : (10 : Nat) ^ 13 = 10000000000000 := by decide
    omega)
  have k1 := k t.toNat (by omega)
  have k2 := k p.toNat (by omega)
  have k3 := k m.toNat (by omega)
  unfold shw
  rw [List.length_append, List.length_append, List.length_append, List.length_append]
  show (TL.numL t.toNat).length + 1 + (TL.numL p.toNat).length + 1 + (TL.numL m.toNat).length ≤ 100
  omega
def pShown (K : PySem.W.Frag) : V → Hp → VK → XK → Prop := fun a H Q _ => ∃ (r : Addr) (t p m : Int), a = .ref r ∧ SqT K H r [.int t, .int p, .int m] ∧ Rule t p m ∧ Q (.str (S (shw t p m))) H
theorem lg_small {i : Int} (h0 : 0 ≤ i) (h1 : i ≤ 1000000000000) : i.natAbs.log2 < 1920 := by
  by_cases z : i.natAbs = 0
  · rw [z]
    decide
  · have h2 : i.natAbs.log2 < 41 := (Nat.log2_lt z).mpr (by
      have : (2 : Nat) ^ 41 = 2199023255552 := by decide
      omega)
    omega
theorem str_num {i : Int} (h0 : 0 ≤ i) : Str.ofString (toString i) = S (TL.numL i.toNat) := by
  have := SX.num_S i.toNat
  rw [Int.toNat_of_nonneg h0] at this
  exact this
theorem s_len (l : List Nat) (h : l.length ≤ 1000) : (S l).length ≤ sizeLine := by
  show l.toArray.size ≤ sizeLine
  rw [List.size_toArray]
  exact sz (by omega)
end Tw

/-! Bounds that fit: max of a tuple, defs with a table of their own, the bounds' list. -/
namespace Tw
open PySem PySem.Spec PyProof.Rows L2
section
variable {prog : Program} {w : World} {A : Around} {E : Value → Shared → Prop} {s : Shared} {l : Addr} {its : List Value} {ns : List Int} {Q : Value → Shared → Prop}
theorem max_rawT (hh : A.handled = none) (hl : s.heap.IsTuple l its.toArray) (hi : IntsAre its ns) (hne : 0 < ns.length)
    (h : ∀ h' tk M t', (∀ b o, s.heap.get? b = some o → h'.get? b = some o) → M ∈ ns → (∀ a, a ∈ ns → a ≤ M) → Q (.int M t') { s with heap := h', toks := tk }) : wpAny (model prog w) A (call (.builtin "max") [.ref l]) Q E s := by
  obtain ⟨xs, e⟩ := hi.allInts.items
  have hn : numsOf (intItems xs).toList = ns := by rw [← e]; exact hi.numsOf
  rw [nums_intItems] at hn
  subst hn
  rw [e] at hl
  have hlt : l < s.heap.objs.size := by obtain ⟨_, e, _⟩ := hl; exact Heap.lt_size e
  have hsz : 0 < xs.size := by simpa using hne
  have sz : (intItems xs).size = xs.size := by simp [intItems]
  refine call_max_walk (wpAny_pyIter_tuple hl ⟨_, _, _, _, _, _, _, rfl, Walks.tuple (A := A.in1) hh _ l (Nat.ne_of_lt hlt) (intItems xs), ⟨⟨_, Heap.get?_push_size _ rfl, rfl, rfl⟩, hl.push _⟩, fun b hb => ?_, by rw [sz]; exact hsz, CmpOf.ints_gt (numAt xs) (fun _ _ => intItems_at), fun v h' tk hP hk => ?_⟩)
  · show b < (s.heap.push _).objs.size
    rw [Heap.size_push]
    rcases List.mem_cons.mp hb with rfl | hb
    · exact Nat.lt_succ_self _
    · rcases List.mem_cons.mp hb with rfl | hb
      · exact Nat.lt_succ_of_lt hlt
      · cases hb
  · rw [sz] at hP
    obtain ⟨t, rfl⟩ := intItems_at hP
    obtain ⟨g1, g2⟩ := argBest_gt (numAt xs) (xs.size - 1)
    refine h h' tk _ t (fun b o e => hk b o (fun hm => absurd (Heap.lt_size e) ((List.mem_singleton.mp hm) ▸ Nat.lt_irrefl _)) (Heap.get?_push_of_some _ e)) ?_ fun a ha => ?_
    · rw [numAt_eq]; exact PySem.getD_mem (by rw [List.length_map, Array.length_toList]; omega)
    · obtain ⟨j, hj, rfl⟩ := mem_getD ha
      rw [List.length_map, Array.length_toList] at hj
      rw [← numAt_eq]
      exact g2 j (by omega)
end
def rMaxT (K : PySem.W.Frag) : List V → Hp → VK → Prop := fun vs H Q => ∃ (a : Addr) (ns : List Int), vs = [V.ref a] ∧ SqT K H a (ns.map V.int) ∧ 0 < ns.length ∧ ∀ M, M ∈ ns → (∀ x, x ∈ ns → x ≤ M) → Q (.int M) H
theorem cr_maxT {X : Cx} (hc : X.calm = true) : CallR X (.builtin "max") (rMaxT X.K) := by
  intro pins s σ H vs us Q I r h
  obtain ⟨a, ns, rfl, hs, hne, q⟩ := h
  obtain ⟨its, rv, hl, _⟩ := I.tuple hs
  rw [Vals.ref1 r]
  exact max_rawT (I.ok.hd hc) hl (intsAre_of rv) hne fun h' tk M t' hk h1 h2 => ⟨.int _, H, I.kept hk, ⟨_, rfl⟩, q M h1 h2⟩
/-! ### a def of two arguments with a table of its own -/
section
variable {P : Program} {w : World} {K : PySem.W.Frag} {mg : Str → Option Value} {base : Heap} {x : Str} {st : Stmt} {N : List Str} {k : Nat} {c : Addr}
theorem TopC.ok2 {a b : Str} {p : V → V → Hp → VK → XK → Prop} (D : TopC K mg x st [a, b] c) (Sc : FnScope N [a, b] (defScope st))
    (hbody : ∀ (f : Addr) (A : Around) (outer : List Env) (s : Shared) (H : Hp) (v1 v2 : V) (Q : VK) (E : XK), Room k (A.deeper (envOfC x (defScope st) s.heap.objs.size f (.ref c))) → p v1 v2 H Q E →
      ∃ t, PSs (cxOf CX0 P w K mg base N x (defScope st) f (.ref c) A outer s H E).nox (defBody st) t ∧ t { nx := fun _ H' => Q .non H', rt := Q } (start N [v1, v2]) H) : Has P w K mg base CX0 (k + 1) x [a, b] (sp2 p) := by
  obtain ⟨f, oc, od, kV, doc, pm, an, ct, osl, lk, hcd, kp, g, bb⟩ := D
  refine ⟨f, _, fn_of lk hcd Sc (fun vs H Q E h => by obtain ⟨_, _, rfl, _⟩ := h; rfl) fun A outer s H vs Q E hr h => ?_, g, kp, bb, oc, od, osl, lk⟩
  obtain ⟨v1, v2, rfl, h⟩ := h
  obtain ⟨t, h, q⟩ := hbody f A outer s H v1 v2 Q E hr h
  exact ⟨t, h.nox, q⟩
end
/-! ### the bounds that fit -/
def FB (xs : List Int) (b : Int) : Prop := Rng b xs ∧ ¬ FitR b xs (xs.length - 2) none
noncomputable def fbB (xs : List Int) (b : Int) : Bool := @decide (FB xs b) (Classical.propDecidable _)
theorem fbB_t {xs : List Int} {b : Int} (h : FB xs b) : fbB xs b = true := by unfold fbB; simp [h]
theorem fbB_f {xs : List Int} {b : Int} (h : ¬ FB xs b) : fbB xs b = false := by unfold fbB; simp [h]
theorem fbB_iff {xs : List Int} {b : Int} : fbB xs b = true ↔ FB xs b := by unfold fbB; simp
/-- of the bounds from lo + 1 on the first n -/
noncomputable def bfL (xs : List Int) (lo : Int) (n : Nat) : List Int := ((List.range n).map fun (i : Nat) => lo + 1 + (i : Int)).filter (fbB xs)
theorem bfL_len (xs : List Int) (lo : Int) (n : Nat) : (bfL xs lo n).length ≤ n := by
  unfold bfL
  refine Nat.le_trans (List.length_filter_le _ _) ?_
  rw [List.length_map, List.length_range]
  exact Nat.le_refl _
theorem bfL_succ (xs : List Int) (lo : Int) (n : Nat) : bfL xs lo (n + 1) = bfL xs lo n ++ (if fbB xs (lo + 1 + (n : Int)) = true then [lo + 1 + (n : Int)] else []) := by
  unfold bfL
  rw [List.range_succ, List.map_append, List.filter_append]
  congr 1
  simp only [List.map_cons, List.map_nil, List.filter_cons, List.filter_nil]
theorem bfL_none {xs : List Int} {lo : Int} : ∀ n : Nat, (∀ i : Nat, i < n → ¬ FB xs (lo + 1 + (i : Int))) → bfL xs lo n = []
  | 0, _ => rfl
  | n + 1, h => by
    rw [bfL_succ, bfL_none n (fun i hi => h i (by omega)), fbB_f (h n (by omega))]
    rfl
theorem bfL_add (xs : List Int) (lo : Int) (a b : Nat) : bfL xs lo (a + b) = bfL xs lo a ++ bfL xs (lo + (a : Int)) b := by
  induction b with
  | zero => simp [bfL]
  | succ b ih =>
    rw [← Nat.add_assoc, bfL_succ, ih, bfL_succ, List.append_assoc]
    rw [show lo + 1 + ((a + b : Nat) : Int) = lo + (a : Int) + 1 + (b : Int) by omega]
/-- below the greatest number none fits -/
theorem bfL_from {xs : List Int} {M : Int} (hM : M ∈ xs) (m0 : 0 ≤ M) (n : Nat) : bfL xs 0 n = bfL xs M ((n : Int) - M).toNat := by
  have low : ∀ i : Nat, i < M.toNat → ¬ FB xs (0 + 1 + (i : Int)) := fun i hi h => by
    have := (h.1 M hM).2
    omega
  by_cases c : (n : Int) ≤ M
  · rw [show ((n : Int) - M).toNat = 0 by omega, bfL_none n (fun i hi => low i (by omega))]
    rfl
  · have e : n = M.toNat + ((n : Int) - M).toNat := by omega
    rw [show bfL xs 0 n = bfL xs 0 (M.toNat + ((n : Int) - M).toNat) by rw [← e], bfL_add, bfL_none _ low, List.nil_append]
    congr 1
    omega
def NonNeg (xs : List Int) : Prop := ∀ x ∈ xs, 0 ≤ x
def pFsome (K : PySem.W.Frag) (Pt : Addr) : V → V → Hp → VK → XK → Prop := fun a b H Q _ => ∃ (r : Addr) (xs : List Int) (m : Int), a = .ref r ∧ b = .int m ∧ SqT K H r (xs.map V.int) ∧ 1 ≤ m ∧ m ≤ 1000000000000 ∧ xs.length ≤ 1000 ∧ GxR.TabG H Pt ∧
  ∀ H', Grow Pt Pt H H' → Q (.bl (fbB xs m)) H'
def pBtf (K : PySem.W.Frag) (Pt : Addr) : V → V → Hp → VK → XK → Prop := fun a b H Q _ => ∃ (r : Addr) (xs : List Int) (m : Int), a = .ref r ∧ b = .int m ∧ SqT K H r (xs.map V.int) ∧ 0 ≤ m ∧ m ≤ 2000 ∧ xs.length ≤ 1000 ∧ GxR.TabG H Pt ∧
  ∀ H' q, Grow Pt Pt H H' → H q = none → H' q = some (.tup ((bfL xs 0 m.toNat).map V.int)) → Q (.ref q) H'
def pTrialB (K : PySem.W.Frag) : V → V → Hp → VK → XK → Prop := fun a b H Q _ => ∃ (r : Addr) (xs : List Int) (m : Int), a = .ref r ∧ b = .int m ∧ SqT K H r (xs.map V.int) ∧ 1 ≤ m ∧ m ≤ 200 ∧ Rng m xs ∧ 2 ≤ xs.length ∧ xs.length ≤ 1000 ∧ ∀ H', Same H H' → Q (.bl (fbB xs m)) H'
def pDueB (K : PySem.W.Frag) : V → V → Hp → VK → XK → Prop := fun a b H Q _ => ∃ (r : Addr) (xs : List Int) (m : Int), a = .ref r ∧ b = .int m ∧ SqT K H r (xs.map V.int) ∧ 0 ≤ m ∧ m ≤ 2000 ∧ NonNeg xs ∧ (∀ x ∈ xs, x ≤ 1000000000000) ∧ 2 ≤ xs.length ∧ xs.length ≤ 1000 ∧
  ∀ H' l, Same H H' → H l = none → H' l = some (.lst ((bfL xs 0 m.toNat).map V.int)) → Q (.ref l) H'
def pRightB (K : PySem.W.Frag) (Pt : Addr) : V → V → Hp → VK → XK → Prop := fun a b H Q _ => ∃ (r : Addr) (xs : List Int) (m : Int), a = .ref r ∧ b = .int m ∧ SqT K H r (xs.map V.int) ∧ 0 ≤ m ∧ m ≤ 2000 ∧ NonNeg xs ∧ (∀ x ∈ xs, x ≤ 1000000000000) ∧ 2 ≤ xs.length ∧ xs.length ≤ 1000 ∧ GxR.TabG H Pt ∧ ∀ H', Grow Pt Pt H H' → Q (.bl true) H'
theorem _root_.L2.Same.grow {P : Addr} {H H' : Hp} (s : Same H H') (t : GxR.TabG H P) : Grow P P H H' := ⟨tabG_same t s, tabG_same t s, fun _ _ _ _ e => s _ _ e⟩
theorem tabG_mut {P L : Addr} {H : Hp} {o : HO} (t : GxR.TabG H P) (ne : L ≠ P) : GxR.TabG (upd H L o) P := by
  obtain ⟨ps, e, k⟩ := t
  exact ⟨ps, by rw [upd_ne (Ne.symm ne)]; exact e, k⟩
theorem Seed.ne_tab {H : Hp} {d P : Addr} {n : Nat} (h : Seed H d n) (t : GxR.TabG H P) : P ≠ d := by
  obtain ⟨r, f, k, c, a1, _⟩ := h
  obtain ⟨ps, e, _⟩ := t
  intro z
  rw [z, a1] at e
  cases e
theorem tabG_butS {P d : Addr} {H H' : Hp} {n : Nat} (t : GxR.TabG H P) (D : Seed H d n) (b : But d H H') : GxR.TabG H' P := by
  have ne := D.ne_tab t
  obtain ⟨ps, e, k⟩ := t
  exact ⟨ps, b _ _ ne e, k⟩
theorem Grow.seed {P d : Addr} {H H' : Hp} {n : Nat} (g : Grow P P H H') (t : GxR.TabG H P) (D : Seed H d n) : Seed H' d n := by
  have ne := D.ne_tab t
  obtain ⟨r, f, k, c, a1, a2⟩ := D
  exact ⟨r, f, k, c, g.keep _ _ (Ne.symm ne) (Ne.symm ne) a1, a2⟩
theorem sqT_kept {K : PySem.W.Frag} {H H' : Hp} {r : Addr} {xs : List V} (h : SqT K H r xs) (k : ∀ o, (∀ ps, o ≠ .tbl ps) → H r = some o → H' r = some o) : SqT K H' r xs := by
  rcases h with (h | ⟨o, h⟩) | h
  · exact .inl (.inl (k _ (fun ps z => by cases z) h))
  · exact .inl (.inr ⟨o, k _ (fun ps z => by cases z) h⟩)
  · exact .inr h
theorem Grow.sqT {K : PySem.W.Frag} {P r : Addr} {H H' : Hp} {xs : List V} (g : Grow P P H H') (t : GxR.TabG H P) (h : SqT K H r xs) : SqT K H' r xs := sqT_kept h fun o n e => g.get t t e n
/-- t + u: a tuple of these items -/
def rCatX (K : PySem.W.Frag) : R2 := fun x y H Q => ∃ (a b : Addr) (xs ys : List V), x = .ref a ∧ y = .ref b ∧ SqT K H a xs ∧ SqT K H b ys ∧ xs.length + ys.length ≤ sizeLine ∧ ∀ H' p, Same H H' → SqT K H' p (xs ++ ys) → Q (.ref p) H'
theorem op_catX {X : Cx} : OpR X (binaryOp .Add) (rCatX X.K) := by
  intro pins s σ H x y v u Q I rx ry h
  obtain ⟨a, b, xs, ys, rfl, rfl, ha, hb, hz, q⟩ := h
  refine op_catA pins s σ H _ _ v u Q I rx ry ⟨a, b, xs, ys, rfl, rfl, ha, hb, hz, fun e => ?_, fun _ e => ?_, fun _ _ p np => ?_⟩
  · exact q H b (fun _ _ z => z) (by rw [e]; exact hb)
  · exact q H a (fun _ _ z => z) (by rw [e, List.append_nil]; exact ha)
  · exact q _ p (same_new np) (SqT.of upd_same)
theorem Grow.tup {P r : Addr} {H H' : Hp} {zs : List V} (g : Grow P P H H') (t : GxR.TabG H P) (e : H r = some (.tup zs)) : H' r = some (.tup zs) := g.get t t e (fun ps z => by cases z)
end Tw

/-! Objects of an own class: their defs, made and called; the kept row. -/
namespace Tw
open PySem PySem.Spec PyProof.Rows L2
def TopM (K : PySem.W.Frag) (C : Addr) (m q : Str) (st : Stmt) (ps : List Str) : Prop := ∃ (f : Addr) (fd : FuncData), Fun K m q st f fd ∧ Meth K C m f ∧ Binds K fd ps []
def HasM (P : Program) (w : World) (K : PySem.W.Frag) (mg : Str → Option Value) (base : Heap) (CX : CXT) (k : Nat) (C : Addr) (m : Str) (ps : List Str) (sp : Sp) : Prop := ∃ (f : Addr) (fd : FuncData), FnOk P w K mg base CX k f fd ps sp ∧ Meth K C m f ∧ Binds K fd ps [] ∧ Lk K f fd
def HasI (P : Program) (w : World) (K : PySem.W.Frag) (mg : Str → Option Value) (base : Heap) (CX : CXT) (k : Nat) (C : Addr) (ps : List Str) (sp : Sp) : Prop := ∃ (f : Addr) (fd : FuncData), FnOk P w K mg base CX k f fd ps sp ∧ Mk K C f ∧ Binds K fd ps [] ∧ Lk K f fd
section
variable {P : Program} {w : World} {K : PySem.W.Frag} {mg : Str → Option Value} {base : Heap} {C : Addr} {m q : Str} {st : Stmt} {N : List Str} {k : Nat}
theorem TopM.ok {ps : List Str} {sp : Sp} (D : TopM K C m q st ps) (Sc : FnScope N ps (defScope st)) (len : ∀ vs H Q E, sp vs H Q E → vs.length = ps.length)
    (hbody : ∀ (f : Addr) (cdv : Value) (A : Around) (outer : List Env) (s : Shared) (H : Hp) (vs : List V) (Q : VK) (E : XK), Room k (A.deeper (envOfC q (defScope st) s.heap.objs.size f cdv)) → sp vs H Q E →
      ∃ t, PSs (cxOf CX0 P w K mg base N q (defScope st) f cdv A outer s H E).nox (defBody st) t ∧ t { nx := fun _ H' => Q .non H', rt := Q } (start N vs) H) : HasM P w K mg base CX0 (k + 1) C m ps sp := by
  obtain ⟨f, fd, F, g, b⟩ := D
  exact ⟨f, fd, F.ok Sc len (fun cdv A outer s H vs Q E hr h => hbody f cdv A outer s H vs Q E hr h), g, b, lk_of F⟩
theorem TopM.okX {ps : List Str} {sp : Sp} (D : TopM K C m q st ps) (Sc : FnScope N ps (defScope st)) (len : ∀ vs H Q E, sp vs H Q E → vs.length = ps.length)
    (hbody : ∀ (f : Addr) (cdv : Value) (A : Around) (outer : List Env) (s : Shared) (H : Hp) (vs : List V) (Q : VK) (E : XK), Room k (A.deeper (envOfC q (defScope st) s.heap.objs.size f cdv)) → sp vs H Q E →
      ∃ t, PSs (cxOf (L2.CX P w) P w K mg base N q (defScope st) f cdv A outer s H E) (defBody st) t ∧ t { nx := fun _ H' => Q .non H', rt := Q } (start N vs) H) : HasM P w K mg base (L2.CX P w) (k + 1) C m ps sp := by
  obtain ⟨f, fd, F, g, b⟩ := D
  exact ⟨f, fd, F.okX Sc len (fun cdv A outer s H vs Q E hr h => hbody f cdv A outer s H vs Q E hr h), g, b, lk_of F⟩
end
section
variable {X : Cx} {CX : CXT} {k : Nat} {ps : List Str} {sp : Sp} {E : XK} {x m : Str} {C : Addr} {p apos pos : Pos} {o e : Expr} {es : List Expr} {ta : TE} {t : TA} {pl : Sem Bool}
theorem pe_mth (he : PE X o ta) (c : Cls X.K C) (h : HasM X.prog X.w X.K X.mg X.base CX k C m ps sp) (hr : Room k X.A) (hx : Passes CX X E) (ha : PA X (e :: es) t)
    (hst : starEach (e :: es) X.env = (false, eval e X.env) :: starEach es X.env := by rfl) (hpl : (backTo pos (starEach es X.env)).any (·.1) = false := by rfl)
    (ht : eval (.Call (.Attribute o m apos) (e :: es) [] pos) X.env = (do
      let ov ← eval o X.env
      standAt apos.atName
      let (f, first) ← holding [ov] (getMethod ov m pl)
      callWith pos f first (backTo pos (starEach (e :: es) X.env)) (backToKw pos (keywordEach [] X.env))) := by rfl) : PE X (.Call (.Attribute o m apos) (e :: es) [] pos) (tMeth C m sp [] E ta t) := by
  obtain ⟨f, fd, F, g, b, _⟩ := h
  exact pe_meth he c g F hr b .nil hx ha hst hpl ht
theorem pe_mth0 (he : PE X o ta) (c : Cls X.K C) (h : HasM X.prog X.w X.K X.mg X.base CX k C m ps sp) (hr : Room k X.A) (hx : Passes CX X E)
    (ht : eval (.Call (.Attribute o m apos) [] [] pos) X.env = (do
      let ov ← eval o X.env
      standAt apos.atName
      let (f, first) ← holding [ov] (getMethod ov m pl)
      callWith pos f first (backTo pos (starEach [] X.env)) (backToKw pos (keywordEach [] X.env))) := by rfl) : PE X (.Call (.Attribute o m apos) [] [] pos) (tMeth C m sp [] E ta tNil) := by
  obtain ⟨f, fd, F, g, b, _⟩ := h
  exact pe_meth0 he c g F hr b .nil hx ht
/-- within a try: what is raised is wished for at the slots -/
def tMthS (C : Addr) (m : Str) (sp : Sp) (E : L2.St → XK) (ta : TE) (t : TA) : TE := fun σ H Q => ta σ H fun x H1 => ∃ a dx fs, x = .ref a ∧ H1 a = some (.ins C dx fs) ∧ fs.lookup m = none ∧ t σ H1 fun vs H2 => sp (x :: vs) H2 Q (E σ)
theorem pe_mthS {E : L2.St → XK} (he : PE X o ta) (c : Cls X.K C) (h : HasM X.prog X.w X.K X.mg X.base CX k C m ps sp) (hr : Room k X.A) (hx : ∀ σ, PassesAt CX X σ (E σ)) (ha : PA X (e :: es) t)
    (hst : starEach (e :: es) X.env = (false, eval e X.env) :: starEach es X.env := by rfl) (hpl : (backTo pos (starEach es X.env)).any (·.1) = false := by rfl)
    (ht : eval (.Call (.Attribute o m apos) (e :: es) [] pos) X.env = (do
      let ov ← eval o X.env
      standAt apos.atName
      let (f, first) ← holding [ov] (getMethod ov m pl)
      callWith pos f first (backTo pos (starEach (e :: es) X.env)) (backToKw pos (keywordEach [] X.env))) := by rfl) : PE X (.Call (.Attribute o m apos) (e :: es) [] pos) (tMthS C m sp E ta t) := by
  obtain ⟨f, fd, F, hm, b, _⟩ := h
  refine ⟨fun pins s σ H Q I h => ?_⟩
  refine PySem.W.methodCall_KW (pl := pl) (thn (he.run pins s σ H _ I h) fun u s1 ⟨x, H1, I1, rx, a, dx, fs, ex, ea, l, q⟩ => ?_) ht
  subst ex
  obtain rfl : u = Value.ref a := rx
  refine getmeth_ok I1 ea c hm l ?_
  refine PySem.W.callWith_K (first := [.ref a]) (h₀ := X.base) I.ok.mod.kin hm.kp (thn (ha.run pos pins s1 σ H1 _ I1 q) fun us s2 ⟨vs, H2, I2, r, q2⟩ => ⟨I2.kIn, ?_⟩) hst hpl
  exact run_fnS (us := .ref a :: us) (vs := .ref a :: vs) F hr b (hx σ) I2 (.cons rfl r) q2
theorem pe_mth0S {E : L2.St → XK} (he : PE X o ta) (c : Cls X.K C) (h : HasM X.prog X.w X.K X.mg X.base CX k C m ps sp) (hr : Room k X.A) (hx : ∀ σ, PassesAt CX X σ (E σ))
    (ht : eval (.Call (.Attribute o m apos) [] [] pos) X.env = (do
      let ov ← eval o X.env
      standAt apos.atName
      let (f, first) ← holding [ov] (getMethod ov m pl)
      callWith pos f first (backTo pos (starEach [] X.env)) (backToKw pos (keywordEach [] X.env))) := by rfl) : PE X (.Call (.Attribute o m apos) [] [] pos) (tMthS C m sp E ta tNil) := by
  obtain ⟨f, fd, F, hm, b, _⟩ := h
  refine ⟨fun pins s σ H Q I h => ?_⟩
  refine PySem.W.methodCall_KW (pl := pl) (thn (he.run pins s σ H _ I h) fun u s1 ⟨x, H1, I1, rx, a, dx, fs, ex, ea, l, q⟩ => ?_) ht
  subst ex
  obtain rfl : u = Value.ref a := rx
  refine getmeth_ok I1 ea c hm l ?_
  exact PySem.W.callWith_K0 (first := [.ref a]) I1.kIn hm.kp (run_fnS (us := [.ref a]) (vs := [.ref a]) F hr b (hx σ) I1 (.cons rfl .nil) q)
theorem pe_mkO (h : HasI X.prog X.w X.K X.mg X.base CX k C ps sp) (hr : Room (k + 1) X.A) (hm : X.mg x = some (.ref C)) (hx : Passes CX X E) (ha : PA X (e :: es) t) (hg : Gl X x := by rfl)
    (hdb : (x == ("__debug__" : Str)) = false := by decide) (he : starEach (e :: es) X.env = (false, eval e X.env) :: starEach es X.env := by rfl) (hpl : (backTo pos (starEach es X.env)).any (·.1) = false := by rfl) :
    PE X (.Call (.Name x p) (e :: es) [] pos) (tMake C sp [] E t) := by
  obtain ⟨f, fd, F, M, b, _⟩ := h
  exact pe_make M F hr hg hm b .nil hx ha hdb he hpl
end
/-! ### the kept row -/
theorem bn_ne : ¬ (("bound" : Str) = "numbers") := by decide +kernel
theorem nb_ne : ¬ (("numbers" : Str) = "bound") := by decide +kernel
def kf (m : Int) (l : Addr) : List (Str × V) := putF "numbers" (.ref l) (putF "bound" (.int m) [])
theorem kf_bound (m : Int) (l : Addr) : (kf m l).lookup ("bound" : Str) = some (.int m) := by
  unfold kf
  rw [lookup_putF, if_neg bn_ne, lookup_putF, if_pos rfl]
theorem kf_numbers (m : Int) (l : Addr) : (kf m l).lookup ("numbers" : Str) = some (.ref l) := by
  unfold kf
  rw [lookup_putF, if_pos rfl]
theorem kf_no (m : Int) (l : Addr) {x : Str} (h1 : ¬ x = "numbers") (h2 : ¬ x = "bound") : (kf m l).lookup x = none := by
  unfold kf
  rw [lookup_putF, if_neg h1, lookup_putF, if_neg h2]
  all_goals rfl
structure KTx (K : PySem.W.Frag) (mg : Str → Option Value) (C : Addr) : Prop where
  cl : Cls K C
  nb : NoAttr K C "bound"
  nn : NoAttr K C "numbers"
  g : mg "KeptRow" = some (.ref C)
/-- at p stands a kept row of bound m, whose numbers stand at l -/
def KeptAt (C : Addr) (H : Hp) (p l : Addr) (m : Int) (xs : List Int) : Prop := (∃ dx, H p = some (.ins C dx (kf m l))) ∧ H l = some (.lst (xs.map V.int))
theorem KeptAt.same {C p l : Addr} {H H' : Hp} {m : Int} {xs : List Int} (h : KeptAt C H p l m xs) (s : Same H H') : KeptAt C H' p l m xs := by
  obtain ⟨⟨dx, e⟩, e2⟩ := h
  exact ⟨⟨dx, s _ _ e⟩, s _ _ e2⟩
/-- but for l all that stood stands -/
def Frm (l : Addr) (H H' : Hp) : Prop := ∀ b o, b ≠ l → H b = some o → H' b = some o
theorem _root_.L2.Same.frm {l : Addr} {H H' : Hp} (s : Same H H') : Frm l H H' := fun b o _ e => s b o e
theorem Frm.trans {l : Addr} {H H1 H2 : Hp} (a : Frm l H H1) (b : Frm l H1 H2) : Frm l H H2 := fun c o n e => b c o n (a c o n e)
theorem Frm.sqT {K : PySem.W.Frag} {l r : Addr} {H H' : Hp} {xs : List V} {ys : List V} (f : Frm l H H') (hl : H l = some (.lst ys)) (h : SqT K H r xs) : SqT K H' r xs := by
  rcases h with (h | ⟨o, h⟩) | h
  · exact .inl (.inl (f _ _ (fun z => by rw [z, hl] at h; cases h) h))
  · exact .inl (.inr ⟨o, f _ _ (fun z => by rw [z, hl] at h; cases h) h⟩)
  · exact .inr h
/-- some rule fits -/
def Fits (m : Int) (xs : List Int) : Prop := ¬ FitR m xs (xs.length - 2) none
def pKinit (C : Addr) : V → V → Hp → VK → XK → Prop := fun a b H Q _ => ∃ (H0 : Hp) (p dx : Addr) (m : Int), a = .ref p ∧ b = .int m ∧ Same H0 H ∧ H0 p = none ∧ H p = some (.ins C dx []) ∧ ∀ H' l, Same H0 H' → H0 l = none → p ≠ l → KeptAt C H' p l m [] → Q .non H'
def pRowNow (C : Addr) : V → Hp → VK → XK → Prop := fun a H Q _ => ∃ (p l : Addr) (m : Int) (xs : List Int), a = .ref p ∧ KeptAt C H p l m xs ∧ ∀ H' q, Same H H' → H q = none → H' q = some (.tup (xs.map V.int)) → Q (.ref q) H'
/-- what is told of so many numbers -/
def FitN (m : Int) (xs : List Int) (H : Hp) (v : V) : Prop := (xs.length < 2 ∧ v = .non) ∨ (2 ≤ xs.length ∧ FitV m xs (xs.length - 2) H v)
theorem FitN.same {m : Int} {xs : List Int} {H H' : Hp} {v : V} (h : FitN m xs H v) (s : Same H H') : FitN m xs H' v := by
  rcases h with h | ⟨h, f⟩
  · exact .inl h
  · exact .inr ⟨h, f.same s⟩
def pFitNow (C : Addr) : V → Hp → VK → XK → Prop := fun a H Q _ => ∃ (p l : Addr) (m : Int) (xs : List Int), a = .ref p ∧ KeptAt C H p l m xs ∧ 1 ≤ m ∧ m ≤ 1000000000000 ∧ xs.length ≤ 1000 ∧ Rng m xs ∧ ∀ H' v, Same H H' → FitN m xs H' v → (∀ q, v = .ref q → H q = none) → Q v H'
def pSee (C CN CF : Addr) : V → V → Hp → VK → XK → Prop := fun a b H Q E => ∃ (p l : Addr) (m n : Int) (xs : List Int), a = .ref p ∧ b = .int n ∧ KeptAt C H p l m xs ∧ 1 ≤ m ∧ m ≤ 1000000000000 ∧ xs.length ≤ 900 ∧ Rng m xs ∧ (¬ (0 ≤ n ∧ n < m) → Bad CN n H E) ∧
  ((0 ≤ n ∧ n < m) → ¬ Fits m (xs ++ [n]) → ∀ H', Same H H' → E (.ref CF) none H') ∧ ((0 ≤ n ∧ n < m) → Fits m (xs ++ [n]) → ∀ H', Frm l H H' → KeptAt C H' p l m (xs ++ [n]) → Q .non H')
def pTake (C CF : Addr) : V → Hp → VK → XK → Prop := fun a H Q E => ∃ (p l : Addr) (m : Int) (xs : List Int), a = .ref p ∧ KeptAt C H p l m xs ∧ xs.length ≤ 1000 ∧ (xs = [] → E (.ref CF) none H) ∧ (xs ≠ [] → ∀ H', Frm l H H' → KeptAt C H' p l m xs.dropLast → Q .non H')
/-- the number behind so many numbers -/
def GssN (m : Int) (xs : List Int) (v : V) : Prop := (xs.length < 2 ∧ v = .non) ∨ (2 ≤ xs.length ∧ ∃ l s, FitR m xs (xs.length - 2) (some (l, s)) ∧ v = behV m xs l s)
def pGuess (C : Addr) : V → Hp → VK → XK → Prop := fun a H Q _ => ∃ (p l : Addr) (m : Int) (xs : List Int), a = .ref p ∧ KeptAt C H p l m xs ∧ 1 ≤ m ∧ m ≤ 1000000000000 ∧ xs.length ≤ 1000 ∧ Rng m xs ∧ Fits m xs ∧ ∀ H' v, Same H H' → GssN m xs v → Q v H'
end Tw

/-! The law's own of a kept row, whose numbers stand in a list. -/
namespace Tw
open PySem PySem.Spec PyProof.Rows L2
def pFitLL (K : PySem.W.Frag) : V → V → Hp → VK → XK → Prop := fun a b H Q _ => ∃ (r : Addr) (xs : List Int) (m : Int), a = .ref r ∧ b = .int m ∧ SqL K H r (xs.map V.int) ∧ 1 ≤ m ∧ m ≤ 1000000000000 ∧ Rng m xs ∧ xs.length ≤ 1000 ∧
  ∀ H' v, Same H H' → FitV m xs (xs.length - 2) H' v → (∀ q, v = .ref q → H q = none) → Q v H'
def pNextLL (K : PySem.W.Frag) : V → V → V → Hp → VK → XK → Prop := fun a b c H Q _ => ∃ (r : Addr) (xs : List Int) (m t : Int), a = .ref r ∧ b = .int m ∧ c = .int t ∧ SqL K H r (xs.map V.int) ∧ 1 ≤ m ∧ m ≤ 1000000000000 ∧ Rng m xs ∧ 2 ≤ xs.length ∧ 0 ≤ t ∧ t ≤ 2000000000000 ∧ Q (.int (nxB m xs t)) H
def pGssLL (K : PySem.W.Frag) : V → V → Hp → VK → XK → Prop := fun a b H Q _ => ∃ (r : Addr) (xs : List Int) (m : Int), a = .ref r ∧ b = .int m ∧ SqL K H r (xs.map V.int) ∧ 1 ≤ m ∧ m ≤ 1000000000000 ∧ Rng m xs ∧ xs.length ≤ 1000 ∧ Fits m xs ∧ ∀ H' v, Same H H' → GssN m xs v → Q v H'
/-- one of the three questions -/
def pTldK (K : PySem.W.Frag) (C : Addr) : V → V → V → V → Hp → VK → XK → Prop := fun a b c d H Q _ => ∃ (p l r : Addr) (xs : List Int) (m wy : Int), a = .ref p ∧ b = .ref r ∧ c = .int m ∧ d = .int wy ∧ KeptAt C H p l m xs ∧ H r = some (.lst (xs.map V.int)) ∧ 1 ≤ m ∧ m ≤ 1000000000000 ∧ Rng m xs ∧ xs.length ≤ 1000 ∧ Fits m xs ∧ ∀ H', Same H H' → Q (.bl true) H'
theorem KeptAt.but {C p l d : Addr} {H H' : Hp} {m : Int} {xs : List Int} (h : KeptAt C H p l m xs) (b : But d H H') (n1 : p ≠ d) (n2 : l ≠ d) : KeptAt C H' p l m xs := by
  obtain ⟨⟨dx, e⟩, e2⟩ := h
  exact ⟨⟨dx, b _ _ n1 e⟩, b _ _ n2 e2⟩
theorem er_map : ∀ (ws : List Int) (j : Nat), (ws.map V.int).eraseIdx j = (ws.eraseIdx j).map V.int
  | [], _ => by cases ‹Nat› <;> rfl
  | _ :: _, 0 => rfl
  | a :: ws, j + 1 => by
    show V.int a :: (ws.map V.int).eraseIdx j = V.int a :: (ws.eraseIdx j).map V.int
    rw [er_map ws j]
/-- all three -/
def pLook (K : PySem.W.Frag) (C : Addr) : V → V → V → V → Hp → VK → XK → Prop := fun e a b c H Q _ => ∃ (s p l r : Addr) (n : Nat) (xs : List Int) (m : Int), e = .ref s ∧ a = .ref p ∧ b = .ref r ∧ c = .int m ∧ Seed H s n ∧ n + 3 ≤ 100000000 ∧ s ≠ l ∧ s ≠ r ∧ KeptAt C H p l m xs ∧ H r = some (.lst (xs.map V.int)) ∧ 1 ≤ m ∧ m ≤ 1000000000000 ∧ Rng m xs ∧ xs.length ≤ 1000 ∧ Fits m xs ∧ ∀ H', But s H H' → Seed H' s (n + 3) → Q (.bl true) H'
/-- a number, or none -/
def numV : Option Int → V
  | none => .non
  | some n => .int n
/-- one deed: what is told, and the refusal that is kept -/
def pDone (C CN CF : Addr) : V → V → Hp → VK → XK → Prop := fun a b H Q _ => ∃ (p l : Addr) (m : Int) (xs : List Int) (num : Option Int), a = .ref p ∧ b = numV num ∧ KeptAt C H p l m xs ∧ 1 ≤ m ∧ m ≤ 1000000000000 ∧ xs.length ≤ 900 ∧ Rng m xs ∧
  (num = none → xs = [] → ∀ H' t x, Same H H' → ExcAt H' x CF → H' t = some (.tup [.non, .ref x]) → Q (.ref t) H') ∧
  (num = none → xs ≠ [] → ∀ H' t, Frm l H H' → KeptAt C H' p l m xs.dropLast → H' t = some (.tup [.non, .non]) → Q (.ref t) H') ∧
  (∀ n, num = some n → ¬ (0 ≤ n ∧ n < m) → ∀ H' t x d, Same H H' → H' d = some (.xd [("number", .int n)]) → H' x = some (exv x (.ref CN) (some d)) → H' t = some (.tup [.non, .ref x]) → Q (.ref t) H') ∧
  (∀ n, num = some n → (0 ≤ n ∧ n < m) → ¬ Fits m (xs ++ [n]) → ∀ H' t x, Same H H' → ExcAt H' x CF → H' t = some (.tup [.non, .ref x]) → Q (.ref t) H') ∧
  (∀ n, num = some n → (0 ≤ n ∧ n < m) → Fits m (xs ++ [n]) → ∀ H' t, Frm l H H' → KeptAt C H' p l m (xs ++ [n]) → H' t = some (.tup [.non, .non]) → Q (.ref t) H')
/-- how one deed is refused, or none -/
def pDue32 : V → V → V → Hp → VK → XK → Prop := fun a b c H Q _ => ∃ (r : Addr) (xs : List Int) (m : Int) (num : Option Int), a = .ref r ∧ b = .int m ∧ c = numV num ∧ H r = some (.lst (xs.map V.int)) ∧ 1 ≤ m ∧ m ≤ 1000000000000 ∧ Rng m xs ∧ xs.length ≤ 900 ∧
  (num = none → xs = [] → ∀ H', Same H H' → Q (.str "fit") H') ∧
  (num = none → xs ≠ [] → ∀ H', Same H H' → Q .non H') ∧
  (∀ n, num = some n → ¬ (0 ≤ n ∧ n < m) → ∀ H', Same H H' → Q (.str "number") H') ∧
  (∀ n, num = some n → (0 ≤ n ∧ n < m) → ¬ Fits m (xs ++ [n]) → ∀ H', Same H H' → Q (.str "fit") H') ∧
  (∀ n, num = some n → (0 ≤ n ∧ n < m) → Fits m (xs ++ [n]) → ∀ H', Same H H' → Q .non H')
theorem fits_short {m : Int} {xs : List Int} (m0 : 0 < m) (h : xs.length ≤ 2) : Fits m xs := fun z => by
  rw [show xs.length - 2 = 0 by omega] at z
  cases (fitR_zero m0 xs).uniq z
/-- but for two all that stood stands -/
def Frm2 (l r : Addr) (H H' : Hp) : Prop := ∀ b o, b ≠ l → b ≠ r → H b = some o → H' b = some o
/-- one deed, on the kept row and on the law's own -/
def pIsDone (C : Addr) : V → V → V → V → Hp → VK → XK → Prop := fun a b c d H Q _ => ∃ (p l r : Addr) (m : Int) (xs : List Int) (num : Option Int), a = .ref p ∧ b = .ref r ∧ c = .int m ∧ d = numV num ∧ l ≠ r ∧ KeptAt C H p l m xs ∧ H r = some (.lst (xs.map V.int)) ∧ 1 ≤ m ∧ m ≤ 1000000000000 ∧ Rng m xs ∧ xs.length ≤ 900 ∧ Fits m xs ∧
  ∀ H' xs', Frm2 l r H H' → KeptAt C H' p l m xs' → H' r = some (.lst (xs'.map V.int)) → Rng m xs' → Fits m xs' → xs'.length ≤ xs.length + 1 → Q (.bl true) H'
theorem fits_drop {m : Int} {xs : List Int} (m0 : 0 < m) (h : Fits m xs) : Fits m xs.dropLast := by
  by_cases c : xs.length ≤ 2
  · exact fits_short m0 (by rw [List.length_dropLast]; omega)
  · intro z
    rw [List.length_dropLast, List.dropLast_eq_take, fitR_take (by omega)] at z
    exact h (fitR_none_mono z (by omega))
theorem rng_drop {m : Int} {xs : List Int} (h : Rng m xs) : Rng m xs.dropLast := fun y hy => h y (List.dropLast_subset xs hy)
/-- a drawn deed -/
def pDeed (c' : Nat) : V → V → V → Hp → VK → XK → Prop := fun a b c H Q _ => ∃ (d r : Addr) (n : Nat) (m : Int) (xs : List Int), a = .ref d ∧ b = .ref r ∧ c = .int m ∧ Seed H d n ∧ n + c' ≤ 100000000 ∧ d ≠ r ∧ H r = some (.lst (xs.map V.int)) ∧ 1 ≤ m ∧ m ≤ 1000000000000 ∧ Rng m xs ∧ xs.length ≤ 900 ∧ Fits m xs ∧ ∀ H' num, But d H H' → Seed H' d (n + c') → Q (numV num) H'
theorem FitN.two {m : Int} {xs : List Int} {H : Hp} {u v : V} (h1 : FitN m xs H u) (h2 : FitN m xs H v) : (u = .non ∧ v = .non) ∨ ∃ a b l s, u = .ref a ∧ v = .ref b ∧ H a = some (.tup [.int l, .int s]) ∧ H b = some (.tup [.int l, .int s]) := by
  rcases h1 with ⟨n, rfl⟩ | ⟨n, f1⟩
  · rcases h2 with ⟨_, rfl⟩ | ⟨n2, _⟩
    · exact .inl ⟨rfl, rfl⟩
    · omega
  · rcases h2 with ⟨n2, _⟩ | ⟨_, f2⟩
    · omega
    · rcases f1 with ⟨rfl, o1⟩ | ⟨a, l, s, rfl, ha, o1⟩
      · rcases f2 with ⟨rfl, _⟩ | ⟨b, l2, s2, rfl, _, o2⟩
        · exact .inl ⟨rfl, rfl⟩
        · cases o1.uniq o2
      · rcases f2 with ⟨_, o2⟩ | ⟨b, l2, s2, rfl, hb, o2⟩
        · cases o1.uniq o2
        · cases o1.uniq o2
          exact .inr ⟨a, b, l, s, rfl, rfl, ha, hb⟩
theorem GssN.uniq {m : Int} {xs : List Int} {u v : V} (h1 : GssN m xs u) (h2 : GssN m xs v) : u = v := by
  rcases h1 with ⟨n, rfl⟩ | ⟨n, l, s, o1, rfl⟩
  · rcases h2 with ⟨_, rfl⟩ | ⟨n2, _⟩
    · rfl
    · omega
  · rcases h2 with ⟨n2, _⟩ | ⟨_, l2, s2, o2, rfl⟩
    · omega
    · cases o1.uniq o2
      rfl
theorem GssN.int {m : Int} {xs : List Int} {v : V} (h : GssN m xs v) (n : v ≠ .non) : ∃ z : Int, v = .int z := by
  rcases h with ⟨_, rfl⟩ | ⟨_, l, s, _, rfl⟩
  · exact absurd rfl n
  · unfold behV at n ⊢
    by_cases e : nxB m xs l = nxB m xs (l + s)
    · rw [if_pos e]; exact ⟨_, rfl⟩
    · rw [if_neg e] at n; exact absurd rfl n
/-- where the law stands between two deeds -/
structure St32 (C : Addr) (Hb H : Hp) (d p l r : Addr) (b : Int) (n : Nat) (xs : List Int) : Prop where
  sm : Same Hb H
  sd : Seed H d n
  ka : KeptAt C H p l b xs
  ro : H r = some (.lst (xs.map V.int))
  rg : Rng b xs
  ft : Fits b xs
theorem St32.same {C d p l r : Addr} {Hb H H' : Hp} {b : Int} {n : Nat} {xs : List Int} (h : St32 C Hb H d p l r b n xs) (s : Same H H') : St32 C Hb H' d p l r b n xs := ⟨h.sm.trans s, h.sd.same s, h.ka.same s, s _ _ h.ro, h.rg, h.ft⟩
theorem St32.but {C d p l r : Addr} {Hb H H' : Hp} {b : Int} {n n' : Nat} {xs : List Int} (h : St32 C Hb H d p l r b n xs) (nd : Hb d = none) (pd : p ≠ d) (ld : l ≠ d) (rd : r ≠ d) (B : But d H H') (D : Seed H' d n') : St32 C Hb H' d p l r b n' xs :=
  ⟨same_butNew h.sm nd B, D, h.ka.but B pd ld, B _ _ rd h.ro, h.rg, h.ft⟩
theorem St32.deed {C d p l r : Addr} {Hb H H' : Hp} {b : Int} {n : Nat} {xs ys : List Int} (h : St32 C Hb H d p l r b n xs) (nl : Hb l = none) (nr : Hb r = none) (ld : l ≠ d) (rd : r ≠ d) (f : Frm2 l r H H') (K : KeptAt C H' p l b ys) (R : H' r = some (.lst (ys.map V.int))) (rg : Rng b ys) (ft : Fits b ys) : St32 C Hb H' d p l r b n ys := by
  refine ⟨fun c o e => f _ _ (ne_of_none e nl) (ne_of_none e nr) (h.sm _ _ e), ?_, K, R, rg, ft⟩
  obtain ⟨a, f', k, c, e, rest⟩ := h.sd
  exact ⟨a, f', k, c, f _ _ (Ne.symm ld) (Ne.symm rd) e, rest⟩
end Tw

/-! Two kept rows beside the law's own. -/
namespace Tw
open PySem PySem.Spec PyProof.Rows L2
theorem op_neDK {X : Cx} {K : PySem.W.Frag} (hK : X.K = K) (hu : X.A.units + 64 < cLine) : OpR X (compareOp .NotEq) (rNeD K) := by
  subst hK
  exact op_neD hu
theorem op_eqDK {X : Cx} {K : PySem.W.Frag} (hK : X.K = K) (hu : X.A.units + 64 < cLine) : OpR X (compareOp .Eq) (rEqD K) := by
  subst hK
  exact op_eqD hu
/-- unlike addresses, at each of which something stands -/
def Live (H : Hp) (L : List Addr) : Prop := L.Nodup ∧ ∀ x ∈ L, H x ≠ none
theorem Live.nil (H : Hp) : Live H [] := ⟨List.nodup_nil, fun x h => by cases h⟩
theorem Live.new {H : Hp} {L : List Addr} {a : Addr} {o : HO} (h : Live H L) (e : H a = none) : Live (upd H a o) (a :: L) := by
  refine ⟨List.nodup_cons.mpr ⟨fun m => h.2 a m e, h.1⟩, fun x hx => ?_⟩
  by_cases n : x = a
  · rw [n, upd_same]; exact fun z => by cases z
  · rw [upd_ne n]
    rcases List.mem_cons.mp hx with z | z
    · exact absurd z n
    · exact h.2 x z
theorem Live.keep {H H' : Hp} {L : List Addr} (h : Live H L) (k : ∀ x ∈ L, ∀ o, H x = some o → H' x ≠ none) : Live H' L :=
  ⟨h.1, fun x hx => by
    cases e : H x with
    | none => exact absurd e (h.2 x hx)
    | some o => exact k x hx o e⟩
theorem Live.same {H H' : Hp} {L : List Addr} (h : Live H L) (s : Same H H') : Live H' L := h.keep fun x _ o e => by rw [s _ _ e]; exact fun z => by cases z
theorem Live.add {H H' : Hp} {L : List Addr} {a : Addr} (h : Live H L) (e : H a = none) (h' : Live H' L) (e' : H' a ≠ none) : Live H' (a :: L) :=
  ⟨List.nodup_cons.mpr ⟨fun m => h.2 a m e, h.1⟩, fun x hx => by
    rcases List.mem_cons.mp hx with z | z
    · rw [z]; exact e'
    · exact h'.2 x z⟩
theorem Live.but {H H' : Hp} {L : List Addr} {d : Addr} (h : Live H L) (b : But d H H') (e : H' d ≠ none) : Live H' L := h.keep fun x _ o k => by
  by_cases n : x = d
  · rw [n]; exact e
  · rw [b _ _ n k]; exact fun z => by cases z
theorem some_ne {α : Type} {x : Option α} {a : α} (h : x = some a) : x ≠ none := fun z => by rw [h] at z; cases z
theorem Seed.live {H : Hp} {d : Addr} {n : Nat} (h : Seed H d n) : H d ≠ none := by
  obtain ⟨_, _, _, _, e, _⟩ := h
  exact some_ne e
theorem nd_ne {α : Type} : ∀ {L : List α}, L.Nodup → ∀ {i j : Nat} {x y : α}, L[i]? = some x → L[j]? = some y → i ≠ j → x ≠ y := by
  intro L h i j x y hx hy n
  obtain ⟨li, ei⟩ := List.getElem?_eq_some_iff.mp hx
  obtain ⟨lj, ej⟩ := List.getElem?_eq_some_iff.mp hy
  intro z
  rw [← ei, ← ej] at z
  have hp := List.pairwise_iff_getElem.mp h
  rcases Nat.lt_or_gt_of_ne n with k | k
  · exact hp i j li lj k z
  · exact hp j i lj li k z.symm
theorem KeptAt.frm {C p l L : Addr} {H H' : Hp} {m : Int} {xs : List Int} {ys : List V} (h : KeptAt C H p l m xs) (hL : H L = some (.lst ys)) (nl : l ≠ L) (f : Frm L H H') : KeptAt C H' p l m xs := by
  obtain ⟨⟨dx, hp⟩, hl⟩ := h
  exact ⟨⟨dx, f _ _ (fun z => by rw [z, hL] at hp; cases hp) hp⟩, f _ _ nl hl⟩
/-- of two -/
def sel {α : Type} (a b : α) : Nat → α
  | 0 => a
  | _ + 1 => b
/-- a rule at an address -/
def RuleAt (H : Hp) (u : Addr) (m : Int) : Prop := ∃ t pl, H u = some (.tup [.int t, .int pl, .int m]) ∧ Rule t pl m
/-- a kept row, the law's own and the rule beside -/
structure KRow (C : Addr) (H : Hp) (p l r u : Addr) (m : Int) (xs : List Int) : Prop where
  ka : KeptAt C H p l m xs
  ro : H r = some (.lst (xs.map V.int))
  ru : ∃ t pl, H u = some (.tup [.int t, .int pl, .int m]) ∧ Rule t pl m
  m1 : 1 ≤ m
  m2 : m ≤ 1000000000000
  rg : Rng m xs
  ft : Fits m xs
theorem KRow.stay {C p l r u : Addr} {H H' : Hp} {m : Int} {xs : List Int} (h : KRow C H p l r u m xs) (f : ∀ x o, H x = some o → (x = l → False) → (x = r → False) → H' x = some o) (fl : ∀ o, H l = some o → H' l = some o) (fr : ∀ o, H r = some o → H' r = some o) : KRow C H' p l r u m xs := by
  obtain ⟨⟨dx, hp⟩, hl⟩ := h.ka
  obtain ⟨t, pl, hu, R⟩ := h.ru
  exact ⟨⟨⟨dx, f _ _ hp (fun z => by rw [z, hl] at hp; cases hp) (fun z => by rw [z, h.ro] at hp; cases hp)⟩, fl _ hl⟩, fr _ h.ro, ⟨t, pl, f _ _ hu (fun z => by rw [z, hl] at hu; cases hu) (fun z => by rw [z, h.ro] at hu; cases hu), R⟩, h.m1, h.m2, h.rg, h.ft⟩
theorem KRow.same {C p l r u : Addr} {H H' : Hp} {m : Int} {xs : List Int} (h : KRow C H p l r u m xs) (s : Same H H') : KRow C H' p l r u m xs := h.stay (fun x o e _ _ => s _ _ e) (fun o e => s _ _ e) (fun o e => s _ _ e)
/-- a list of ours is changed that is not among them -/
theorem KRow.frm {C p l r u L : Addr} {H H' : Hp} {m : Int} {xs : List Int} {ys : List V} (h : KRow C H p l r u m xs) (hL : H L = some (.lst ys)) (nl : l ≠ L) (nr : r ≠ L) (f : Frm L H H') : KRow C H' p l r u m xs := by
  obtain ⟨⟨dx, hp⟩, hl⟩ := h.ka
  obtain ⟨t, pl, hu, R⟩ := h.ru
  exact ⟨⟨⟨dx, f _ _ (fun z => by rw [z, hL] at hp; cases hp) hp⟩, f _ _ nl hl⟩, f _ _ nr h.ro, ⟨t, pl, f _ _ (fun z => by rw [z, hL] at hu; cases hu) hu, R⟩, h.m1, h.m2, h.rg, h.ft⟩
theorem But.frm {d : Addr} {H H' : Hp} (b : But d H H') : Frm d H H' := fun x o n e => b _ _ n e
theorem Frm.upd {L : Addr} {H : Hp} {o : HO} : Frm L H (upd H L o) := fun x u n e => by rw [upd_ne n]; exact e
/-- two kept rows: each by its number -/
structure Two (C : Addr) (Hb H : Hp) (P L R U : Nat → Addr) (M : Nat → Int) (X : Nat → List Int) (d LR LK LW LH : Addr) (n : Nat) : Prop where
  sm : Same Hb H
  lv : Live H [LH, LW, R 1, R 0, L 1, L 0, LK, LR, d]
  fr : ∀ x ∈ [LH, LW, R 1, R 0, L 1, L 0, LK, LR, d], Hb x = none
  sd : Seed H d n
  kr : ∀ i, i < 2 → KRow C H (P i) (L i) (R i) (U i) (M i) (X i)
  hR : H LR = some (.lst [.ref (U 0), .ref (U 1)])
  hK : H LK = some (.lst [.ref (P 0), .ref (P 1)])
  hW : H LW = some (.lst [.ref (R 0), .ref (R 1)])
  hH : ∃ hs, H LH = some (.lst hs)
theorem at_two {f : Nat → V} {i : Nat} (h : i < 2) : atI [f 0, f 1] (i : Int) = some (f i) := by
  match i, h with
  | 0, _ => rfl
  | 1, _ => rfl
section
variable {C : Addr} {Hb H H' : Hp} {P L R U : Nat → Addr} {M : Nat → Int} {X : Nat → List Int} {d LR LK LW LH : Addr} {n : Nat}
theorem ixL {i : Nat} (h : i < 2) : [LH, LW, R 1, R 0, L 1, L 0, LK, LR, d][5 - i]? = some (L i) := by
  match i, h with
  | 0, _ => rfl
  | 1, _ => rfl
theorem ixR {i : Nat} (h : i < 2) : [LH, LW, R 1, R 0, L 1, L 0, LK, LR, d][3 - i]? = some (R i) := by
  match i, h with
  | 0, _ => rfl
  | 1, _ => rfl
variable (S : Two C Hb H P L R U M X d LR LK LW LH n)
include S
theorem Two.ld {i : Nat} (h : i < 2) : L i ≠ d := nd_ne S.lv.1 (ixL h) (j := 8) rfl (by omega)
theorem Two.rd {i : Nat} (h : i < 2) : R i ≠ d := nd_ne S.lv.1 (ixR h) (j := 8) rfl (by omega)
theorem Two.lr {i j : Nat} (h : i < 2) (k : j < 2) : L i ≠ R j := nd_ne S.lv.1 (ixL h) (ixR k) (by omega)
theorem Two.ll {i j : Nat} (h : i < 2) (k : j < 2) (ne : i ≠ j) : L i ≠ L j := nd_ne S.lv.1 (ixL h) (ixL k) (by omega)
theorem Two.rr {i j : Nat} (h : i < 2) (k : j < 2) (ne : i ≠ j) : R i ≠ R j := nd_ne S.lv.1 (ixR h) (ixR k) (by omega)
theorem Two.lH {i : Nat} (h : i < 2) : L i ≠ LH := nd_ne S.lv.1 (ixL h) (j := 0) rfl (by omega)
theorem Two.rH {i : Nat} (h : i < 2) : R i ≠ LH := nd_ne S.lv.1 (ixR h) (j := 0) rfl (by omega)
theorem Two.same (s : Same H H') : Two C Hb H' P L R U M X d LR LK LW LH n :=
  ⟨S.sm.trans s, S.lv.same s, S.fr, S.sd.same s, fun i h => (S.kr i h).same s, s _ _ S.hR, s _ _ S.hK, s _ _ S.hW, let ⟨hs, e⟩ := S.hH; ⟨hs, s _ _ e⟩⟩
/-- the seed is drawn from -/
theorem Two.but {n' : Nat} (b : But d H H') (D : Seed H' d n') : Two C Hb H' P L R U M X d LR LK LW LH n' := by
  obtain ⟨_, _, _, _, ed, _⟩ := S.sd
  refine ⟨same_butNew S.sm (S.fr d (by simp)) b, S.lv.but b D.live, S.fr, D, fun i h => (S.kr i h).frm ed (S.ld h) (S.rd h) b.frm, ?_, ?_, ?_, ?_⟩
  · exact b _ _ (nd_ne S.lv.1 (i := 7) (j := 8) rfl rfl (by decide)) S.hR
  · exact b _ _ (nd_ne S.lv.1 (i := 6) (j := 8) rfl rfl (by decide)) S.hK
  · exact b _ _ (nd_ne S.lv.1 (i := 1) (j := 8) rfl rfl (by decide)) S.hW
  · obtain ⟨hs, e⟩ := S.hH
    exact ⟨hs, b _ _ (nd_ne S.lv.1 (i := 0) (j := 8) rfl rfl (by decide)) e⟩
/-- one row goes on -/
theorem Two.step {i : Nat} {ys : List Int} {e : Addr} {k : Nat} (h : i < 2) (De : Seed H e k) (nb : Hb e = none) (ne : e ∉ [LH, LW, R 1, R 0, L 1, L 0, LK, LR, d]) (f : ∀ b o, b ≠ e → b ≠ L i → b ≠ R i → H b = some o → H' b = some o) (De' : H' e ≠ none) (K : KeptAt C H' (P i) (L i) (M i) ys) (ro : H' (R i) = some (.lst (ys.map V.int))) (rg : Rng (M i) ys) (ft : Fits (M i) ys) : Two C Hb H' P L R U M (fun j => if j = i then ys else X j) d LR LK LW LH n := by
  have nl := S.fr (L i) (List.mem_iff_getElem?.mpr ⟨_, ixL h⟩)
  have nr := S.fr (R i) (List.mem_iff_getElem?.mpr ⟨_, ixR h⟩)
  obtain ⟨_, _, _, _, ee, _⟩ := De
  have nx : ∀ {x : Addr}, x ∈ [LH, LW, R 1, R 0, L 1, L 0, LK, LR, d] → x ≠ e := fun m z => ne (z ▸ m)
  have nL : ∀ {j : Nat}, j < 2 → L j ≠ e := fun k => nx (List.mem_iff_getElem?.mpr ⟨_, ixL k⟩)
  have nR : ∀ {j : Nat}, j < 2 → R j ≠ e := fun k => nx (List.mem_iff_getElem?.mpr ⟨_, ixR k⟩)
  refine ⟨fun c o z => f _ _ (ne_of_none z nb) (ne_of_none z nl) (ne_of_none z nr) (S.sm _ _ z), S.lv.keep fun x hx o z => ?_, S.fr, ?_, fun j hj => ?_, ?_, ?_, ?_, ?_⟩
  · by_cases n1 : x = L i
    · rw [n1, K.2]; exact fun z => by cases z
    · by_cases n2 : x = R i
      · rw [n2, ro]; exact fun z => by cases z
      · rw [f _ _ (nx hx) n1 n2 z]; exact fun z => by cases z
  · obtain ⟨a, f', k, c, z, rest⟩ := S.sd
    exact ⟨a, f', k, c, f _ _ (nx (by simp)) (Ne.symm (S.ld h)) (Ne.symm (S.rd h)) z, rest⟩
  · by_cases z : j = i
    · subst z
      obtain ⟨t, pl, hu, RU⟩ := (S.kr j h).ru
      refine ⟨by rw [if_pos rfl]; exact K, by rw [if_pos rfl]; exact ro, ⟨t, pl, f _ _ (fun z => ?_) (fun z => ?_) (fun z => ?_) hu, RU⟩, (S.kr j h).m1, (S.kr j h).m2, by rw [if_pos rfl]; exact rg, by rw [if_pos rfl]; exact ft⟩
      · rw [z, ee] at hu; cases hu
      · rw [z, (S.kr j h).ka.2] at hu; cases hu
      · rw [z, (S.kr j h).ro] at hu; cases hu
    · rw [if_neg z]
      obtain ⟨⟨dx, hp⟩, hl⟩ := (S.kr j hj).ka
      obtain ⟨t, pl, hu, RU⟩ := (S.kr j hj).ru
      refine ⟨⟨⟨dx, f _ _ (fun z => ?_) (fun z => ?_) (fun z => ?_) hp⟩, f _ _ (nL hj) (S.ll hj h z) (S.lr hj h) hl⟩, f _ _ (nR hj) (Ne.symm (S.lr h hj)) (S.rr hj h z) (S.kr j hj).ro, ⟨t, pl, f _ _ (fun z => ?_) (fun z => ?_) (fun z => ?_) hu, RU⟩, (S.kr j hj).m1, (S.kr j hj).m2, (S.kr j hj).rg, (S.kr j hj).ft⟩
      · rw [z, ee] at hp; cases hp
      · rw [z, (S.kr i h).ka.2] at hp; cases hp
      · rw [z, (S.kr i h).ro] at hp; cases hp
      · rw [z, ee] at hu; cases hu
      · rw [z, (S.kr i h).ka.2] at hu; cases hu
      · rw [z, (S.kr i h).ro] at hu; cases hu
  · exact f _ _ (nx (by simp)) (nd_ne S.lv.1 (i := 7) rfl (ixL h) (by omega)) (nd_ne S.lv.1 (i := 7) rfl (ixR h) (by omega)) S.hR
  · exact f _ _ (nx (by simp)) (nd_ne S.lv.1 (i := 6) rfl (ixL h) (by omega)) (nd_ne S.lv.1 (i := 6) rfl (ixR h) (by omega)) S.hK
  · exact f _ _ (nx (by simp)) (nd_ne S.lv.1 (i := 1) rfl (ixL h) (by omega)) (nd_ne S.lv.1 (i := 1) rfl (ixR h) (by omega)) S.hW
  · obtain ⟨hs, z⟩ := S.hH
    exact ⟨hs, f _ _ (nx (by simp)) (nd_ne S.lv.1 (i := 0) rfl (ixL h) (by omega)) (nd_ne S.lv.1 (i := 0) rfl (ixR h) (by omega)) z⟩
/-- another seed is drawn from -/
theorem Two.butO {e : Addr} {k : Nat} (De : Seed H e k) (nb : Hb e = none) (ne : e ∉ [LH, LW, R 1, R 0, L 1, L 0, LK, LR, d]) (b : But e H H') (De' : H' e ≠ none) : Two C Hb H' P L R U M X d LR LK LW LH n := by
  obtain ⟨_, _, _, _, ee, _⟩ := De
  have nx : ∀ {x : Addr}, x ∈ [LH, LW, R 1, R 0, L 1, L 0, LK, LR, d] → x ≠ e := fun m z => ne (z ▸ m)
  refine ⟨same_butNew S.sm nb b, S.lv.but b De', S.fr, ?_, fun i h => (S.kr i h).frm ee (nx (List.mem_iff_getElem?.mpr ⟨_, ixL h⟩)) (nx (List.mem_iff_getElem?.mpr ⟨_, ixR h⟩)) b.frm, b _ _ (nx (by simp)) S.hR, b _ _ (nx (by simp)) S.hK, b _ _ (nx (by simp)) S.hW, ?_⟩
  · obtain ⟨a, f', k, c, z, rest⟩ := S.sd
    exact ⟨a, f', k, c, b _ _ (nx (by simp)) z, rest⟩
  · obtain ⟨hs, z⟩ := S.hH
    exact ⟨hs, b _ _ (nx (by simp)) z⟩
/-- what is held grows -/
theorem Two.held {hs : List V} : Two C Hb (upd H LH (.lst hs)) P L R U M X d LR LK LW LH n := by
  obtain ⟨h0, e0⟩ := S.hH
  have nH := S.fr LH (by simp)
  refine ⟨fun c o e => by rw [upd_ne (ne_of_none e nH)]; exact S.sm _ _ e, S.lv.keep fun x _ o e => ?_, S.fr, S.sd.mut (nd_ne S.lv.1 (i := 0) (j := 8) rfl rfl (by decide)), fun i h => (S.kr i h).frm e0 (S.lH h) (S.rH h) Frm.upd, ?_, ?_, ?_, ⟨hs, upd_same⟩⟩
  · by_cases n1 : x = LH
    · rw [n1, upd_same]; exact fun z => by cases z
    · rw [upd_ne n1, e]; exact fun z => by cases z
  · rw [upd_ne (nd_ne S.lv.1 (i := 7) (j := 0) rfl rfl (by decide))]; exact S.hR
  · rw [upd_ne (nd_ne S.lv.1 (i := 6) (j := 0) rfl rfl (by decide))]; exact S.hK
  · rw [upd_ne (nd_ne S.lv.1 (i := 1) (j := 0) rfl rfl (by decide))]; exact S.hW
end
/-- a pair of two tuples of the same numbers -/
def PairT (H : Hp) (v : V) : Prop := ∃ (q a b : Addr) (xs : List Int), v = .ref q ∧ H q = some (.tup [.ref a, .ref b]) ∧ H a = some (.tup (xs.map V.int)) ∧ H b = some (.tup (xs.map V.int))
theorem PairT.keep {H H' : Hp} {v : V} (h : PairT H v) (f : ∀ x xs, H x = some (.tup xs) → H' x = some (.tup xs)) : PairT H' v := by
  obtain ⟨q, a, b, xs, e, h1, h2, h3⟩ := h
  exact ⟨q, a, b, xs, e, f _ _ h1, f _ _ h2, f _ _ h3⟩
end Tw

/-! What a kept row tells, all three answers together. -/
namespace Tw
open PySem PySem.Spec PyProof.Rows L2
def sp5q (p : V → V → V → V → V → Hp → VK → XK → Prop) : Sp := fun vs H Q E => ∃ a b c d e, vs = [a, b, c, d, e] ∧ p a b c d e H Q E
section
variable {P : Program} {w : World} {K : PySem.W.Frag} {mg : Str → Option Value} {base : Heap} {x : Str} {st : Stmt} {N : List Str} {k : Nat}
theorem Top.ok5q {a b c d e : Str} {p : V → V → V → V → V → Hp → VK → XK → Prop} (D : Top K mg x st [a, b, c, d, e]) (S : FnScope N [a, b, c, d, e] (defScope st))
    (hbody : ∀ (f : Addr) (cdv : Value) (A : Around) (outer : List Env) (s : Shared) (H : Hp) (v1 v2 v3 v4 v5 : V) (Q : VK) (E : XK), Room k (A.deeper (envOfC x (defScope st) s.heap.objs.size f cdv)) → p v1 v2 v3 v4 v5 H Q E →
      ∃ t, PSs (cxOf CX0 P w K mg base N x (defScope st) f cdv A outer s H E).nox (defBody st) t ∧ t { nx := fun _ H' => Q .non H', rt := Q } (start N [v1, v2, v3, v4, v5]) H) : Has P w K mg base CX0 (k + 1) x [a, b, c, d, e] (sp5q p) :=
  D.ok S (fun vs H Q E h => by obtain ⟨_, _, _, _, _, rfl, _⟩ := h; rfl) (fun f cdv A outer s H vs Q E hr h => by obtain ⟨_, _, _, _, _, rfl, h⟩ := h; exact hbody f cdv A outer s H _ _ _ _ _ Q E hr h)
end
/-- the three answers for these numbers -/
def Tri (m : Int) (xs : List Int) (H : Hp) (vs : List V) : Prop := ∃ (a : Addr) (f g : V), vs = [.ref a, f, g] ∧ H a = some (.tup (xs.map V.int)) ∧ FitN m xs H f ∧ GssN m xs g
theorem Tri.same {m : Int} {xs : List Int} {H H' : Hp} {vs : List V} (h : Tri m xs H vs) (s : Same H H') : Tri m xs H' vs := by
  obtain ⟨a, f, g, e, h1, h2, h3⟩ := h
  exact ⟨a, f, g, e, s _ _ h1, h2.same s, h3⟩
theorem FitN.keep {m : Int} {xs : List Int} {H H' : Hp} {v : V} (h : FitN m xs H v) (k : ∀ x ys, H x = some (.tup ys) → H' x = some (.tup ys)) : FitN m xs H' v := by
  rcases h with h | ⟨n, f⟩
  · exact .inl h
  · refine .inr ⟨n, ?_⟩
    rcases f with ⟨e, f⟩ | ⟨a, l, s, e, ha, f⟩
    · exact .inl ⟨e, f⟩
    · exact .inr ⟨a, l, s, e, k _ _ ha, f⟩
theorem Tri.keep {m : Int} {xs : List Int} {H H' : Hp} {vs : List V} (h : Tri m xs H vs) (k : ∀ x ys, H x = some (.tup ys) → H' x = some (.tup ys)) : Tri m xs H' vs := by
  obtain ⟨a, f, g, e, h1, h2, h3⟩ := h
  exact ⟨a, f, g, e, k _ _ h1, h2.keep k, h3⟩
theorem shp_tl {ds : List PyData} (h : PyData.canLayAll0 ds = true) (k : PyData.depthAll ds ≤ 63) : SeqAt.shaped (.tuple ds) = true ∧ SeqAt.shaped (.list ds) = true := by
  constructor
  · show (PyData.canLayAll0 ds && decide (PyData.depthAll ds + 1 ≤ 64)) = true
    rw [h, decide_eq_true (by omega)]
    rfl
  · show (PyData.canLayAll0 ds && decide (PyData.depthAll ds + 1 ≤ 64)) = true
    rw [h, decide_eq_true (by omega)]
    rfl
def lay (d : PyData) : Prop := PyData.canLay0 d = true ∧ PyData.depth d ≤ 60
theorem lay_all3 {a b c : PyData} (ha : lay a) (hb : lay b) (hc : lay c) : PyData.canLayAll0 [a, b, c] = true ∧ PyData.depthAll [a, b, c] ≤ 63 := by
  constructor
  · show (PyData.canLay0 a && (PyData.canLay0 b && (PyData.canLay0 c && true))) = true
    rw [ha.1, hb.1, hc.1]
    rfl
  · show max (PyData.depth a) (max (PyData.depth b) (max (PyData.depth c) 0)) ≤ 63
    have := ha.2
    have := hb.2
    have := hc.2
    omega
theorem lay_tup (ns : List Int) : lay (.tuple (ns.map PyData.int)) := by
  obtain ⟨h1, h2⟩ := lay_ints ns
  exact ⟨h1, by show PyData.depthAll (ns.map PyData.int) + 1 ≤ 60; omega⟩
theorem lay_int (n : Int) : lay (.int n) := ⟨rfl, by show 0 ≤ 60; decide⟩
theorem lay_non : lay .none := ⟨rfl, by show 0 ≤ 60; decide⟩
theorem FitN.dat {K : PySem.W.Frag} {m : Int} {xs : List Int} {H : Hp} {u v : V} (h1 : FitN m xs H u) (h2 : FitN m xs H v) : ∃ d, Dp K H u d ∧ Dp K H v d ∧ lay d := by
  rcases h1.two h2 with ⟨rfl, rfl⟩ | ⟨a, b, l, s, rfl, rfl, ha, hb⟩
  · exact ⟨_, .non, .non, lay_non⟩
  · exact ⟨_, .tup (SqT.of ha) (dp_ints [l, s]), .tup (SqT.of hb) (dp_ints [l, s]), lay_tup [l, s]⟩
theorem GssN.dat {K : PySem.W.Frag} {m : Int} {xs : List Int} {H : Hp} {u v : V} (h1 : GssN m xs u) (h2 : GssN m xs v) : ∃ d, Dp K H u d ∧ Dp K H v d ∧ lay d := by
  cases h1.uniq h2
  by_cases n : u = .non
  · subst n
    exact ⟨_, .non, .non, lay_non⟩
  · obtain ⟨z, rfl⟩ := h1.int n
    exact ⟨_, .int z, .int z, lay_int z⟩
theorem Tri.two {K : PySem.W.Frag} {m : Int} {xs : List Int} {H : Hp} {us vs : List V} (h1 : Tri m xs H us) (h2 : Tri m xs H vs) : ∃ ds, DpAll K H us ds ∧ DpAll K H vs ds ∧ SeqAt.shaped (.tuple ds) = true ∧ SeqAt.shaped (.list ds) = true := by
  obtain ⟨a, f, g, rfl, ha, hf, hg⟩ := h1
  obtain ⟨b, f2, g2, rfl, hb, hf2, hg2⟩ := h2
  obtain ⟨d1, p1, p2, l1⟩ := hf.dat (K := K) hf2
  obtain ⟨d2, q1, q2, l2⟩ := hg.dat (K := K) (H := H) hg2
  obtain ⟨z1, z2⟩ := lay_all3 (lay_tup xs) l1 l2
  obtain ⟨s1, s2⟩ := shp_tl z1 z2
  exact ⟨[.tuple (xs.map PyData.int), d1, d2], .cons (.tup (SqT.of ha) (dp_ints xs)) (.cons p1 (.cons q1 .nil)), .cons (.tup (SqT.of hb) (dp_ints xs)) (.cons p2 (.cons q2 .nil)), s1, s2⟩
/-- what a table of answers by numbers holds: at each number the answers for so many of these -/
def Tells (m : Int) (ws : List Int) (H : Hp) (kvs : List (Key × V)) : Prop := ∀ k v, valV kvs k = some v → ∃ (j : Nat) (q : Addr) (vs : List V), k = .inl (j : Int) ∧ v = .ref q ∧ H q = some (.tup vs) ∧ Tri m (ws.take j) H vs
theorem Tells.keep {m : Int} {ws : List Int} {H H' : Hp} {kvs : List (Key × V)} (h : Tells m ws H kvs) (k : ∀ x ys, H x = some (.tup ys) → H' x = some (.tup ys)) : Tells m ws H' kvs := fun y v e => by
  obtain ⟨j, q, vs, e1, e2, e3, e4⟩ := h y v e
  exact ⟨j, q, vs, e1, e2, k _ _ e3, e4.keep k⟩
theorem Tells.put {m : Int} {ws : List Int} {H : Hp} {kvs : List (Key × V)} {j : Nat} {q : Addr} {vs : List V} (h : Tells m ws H kvs) (hq : H q = some (.tup vs)) (t : Tri m (ws.take j) H vs) : Tells m ws H (putK kvs (.inl (j : Int)) (.ref q)) := fun y v e => by
  rw [valV_put] at e
  by_cases z : y = .inl (j : Int)
  · rw [if_pos z] at e
    cases e
    exact ⟨j, q, vs, z, rfl, hq, t⟩
  · rw [if_neg z] at e
    exact h y v e
theorem orb_gDk (f : Int → Int) {n i : Nat} (x : Int) (h : i < n) : (orb f n x).getD i 0 = itr f i x := by
  unfold orb
  rw [List.getD_eq_getElem?_getD, List.getElem?_map, List.getElem?_range h]
  rfl
theorem itr_stp (f : Int → Int) (i : Nat) (x : Int) : itr f (i + 1) x = f (itr f i x) := by
  first
    | rfl
    | rw [itr_succ]
theorem orb_fitU {t p m s : Int} {n k : Nat} (h : k + 2 ≤ n) : FitU m (orb (stp t p m) n s) k t := by
  intro i hi
  unfold gat
  rw [orb_gDk _ _ (by omega), orb_gDk _ _ (by omega), orb_gDk _ _ (by omega)]
  have h1 := dvd_of_mod_eq (m := m) (a := t * itr (stp t p m) i s + p) (b := itr (stp t p m) (i + 1) s) (by rw [itr_stp]; rfl)
  have h2 := dvd_of_mod_eq (m := m) (a := t * itr (stp t p m) (i + 1) s + p) (b := itr (stp t p m) (i + 1 + 1) s) (by rw [itr_stp _ (i + 1)]; rfl)
  obtain ⟨u, hu⟩ := h1
  obtain ⟨v, hv⟩ := h2
  exact ⟨v - u, by rw [Int.mul_sub, Int.mul_sub, ← hu, ← hv]; omega⟩
theorem fits_orb {t p m s : Int} {n j : Nat} (m0 : 0 < m) (h : j ≤ n) : Fits m ((orb (stp t p m) n s).take j) := by
  have ln : ((orb (stp t p m) n s).take j).length = j := by rw [List.length_take, orb_len]; omega
  by_cases c : j ≤ 2
  · exact fits_short m0 (by rw [ln]; exact c)
  · intro z
    rw [ln, fitR_take (by omega)] at z
    exact z t (orb_fitU (by omega))
theorem rng_take {m : Int} {xs : List Int} (h : Rng m xs) (j : Nat) : Rng m (xs.take j) := fun y hy => h y (List.take_subset j xs hy)
/-- a step never gets less -/
theorem step_dvd {m l s l' s' : Int} {ws : List Int} {i : Nat} (h : 2 ≤ i) (F : FitR m (ws.take (i + 1)) (i - 1) (some (l, s))) (F' : FitR m (ws.take i) (i - 2) (some (l', s'))) : s' ∣ s :=
  (fit_sub F F' fun t ht => (fitU_take (by omega)).mpr (fitU_mono ((fitU_take (by omega)).mp ht) (by omega))).1
theorem fit7 {z c : Int} (hz : z = 2 ∧ c = 1 ∨ z = 3 ∧ c = 2) : FitR 7 [0, 1, z] 1 (some (c, 7)) := by
  refine ⟨by decide, ⟨1, rfl⟩, by omega, by omega, fun t => ?_⟩
  rw [fitU_succ]
  have e1 : gat [0, 1, z] 0 = 1 := rfl
  have e2 : gat [0, 1, z] (0 + 1) = z - 1 := rfl
  rw [e1, e2]
  constructor
  · rintro ⟨_, h⟩
    omega
  · intro h
    exact ⟨fitU_zero _ _ _, by omega⟩
theorem guess7 {z c g : Int} (hz : z = 2 ∧ c = 1 ∧ g = 3 ∨ z = 3 ∧ c = 2 ∧ g = 0) : GssN 7 [0, 1, z] (.int g) := by
  rcases hz with ⟨rfl, rfl, rfl⟩ | ⟨rfl, rfl, rfl⟩
  · exact .inr ⟨by decide, 1, 7, fit7 (.inl ⟨rfl, rfl⟩), rfl⟩
  · exact .inr ⟨by decide, 2, 7, fit7 (.inr ⟨rfl, rfl⟩), rfl⟩
theorem fitN7 {z c : Int} {H : Hp} {v : V} (hz : z = 2 ∧ c = 1 ∨ z = 3 ∧ c = 2) (h : FitN 7 [0, 1, z] H v) : ∃ a, v = .ref a ∧ H a = some (.tup ([c, 7].map V.int)) := by
  rcases h with ⟨n, _⟩ | ⟨_, ⟨_, f⟩ | ⟨a, l, s, e, ha, f⟩⟩
  · exact absurd n (by decide : ¬ (3 < 2))
  · cases f.uniq (fit7 hz)
  · cases f.uniq (fit7 hz)
    exact ⟨a, e, ha⟩
theorem same_frm {l : Addr} {H H1 H2 : Hp} (s : Same H H1) (nl : H l = none) (f : Frm l H1 H2) : Same H H2 := fun b o e => f _ _ (ne_of_none e nl) (s _ _ e)
/-- what is told at so many numbers, beside what was told there ahead -/
def pSeen (K : PySem.W.Frag) (C : Addr) : V → V → V → V → V → Hp → VK → XK → Prop := fun e a b c t H Q _ => ∃ (s p l r td : Addr) (n k : Nat) (ws : List Int) (m : Int) (kvs : List (Key × V)), e = .ref s ∧ a = .ref p ∧ b = .ref r ∧ c = .int m ∧ t = .ref td ∧ Seed H s n ∧ n + 3 ≤ 100000000 ∧ s ≠ l ∧ s ≠ r ∧ KeptAt C H p l m (ws.take k) ∧ k ≤ ws.length ∧ k ≤ 900 ∧ H r = some (.lst ((ws.take k).map V.int)) ∧ 1 ≤ m ∧ m ≤ 1000000000000 ∧ Rng m (ws.take k) ∧ Fits m (ws.take k) ∧ H td = some (.dK kvs) ∧ kvs.length ≤ 900 ∧ Tells m ws H kvs ∧
  ∀ H' kvs', (∀ b o, b ≠ s → b ≠ td → H b = some o → H' b = some o) → Seed H' s (n + 3) → H' td = some (.dK kvs') → kvs'.length ≤ kvs.length + 1 → Tells m ws H' kvs' → Q (.bl true) H'
/-- where the law stands: the row of so many numbers of the walk, kept and its own, and the table of what was told -/
structure St33 (C : Addr) (Hb H : Hp) (d p l r td wl : Addr) (b : Int) (n k c : Nat) (ws : List Int) : Prop where
  sm : Same Hb H
  lv : Live H [td, r, l, wl, d]
  fr : ∀ x ∈ [td, r, l, d], Hb x = none
  sd : Seed H d n
  ka : KeptAt C H p l b (ws.take k)
  ro : H r = some (.lst ((ws.take k).map V.int))
  wo : H wl = some (.lst (ws.map V.int))
  dk : ∃ kvs, H td = some (.dK kvs) ∧ kvs.length ≤ c ∧ Tells b ws H kvs
section
variable {C : Addr} {Hb H H' : Hp} {d p l r td wl : Addr} {b : Int} {n k c : Nat} {ws : List Int} (S : St33 C Hb H d p l r td wl b n k c ws)
include S
theorem St33.ld : l ≠ d := nd_ne S.lv.1 (i := 2) (j := 4) rfl rfl (by decide)
theorem St33.rd : r ≠ d := nd_ne S.lv.1 (i := 1) (j := 4) rfl rfl (by decide)
theorem St33.td' : td ≠ d := nd_ne S.lv.1 (i := 0) (j := 4) rfl rfl (by decide)
theorem St33.wd : wl ≠ d := nd_ne S.lv.1 (i := 3) (j := 4) rfl rfl (by decide)
theorem St33.rl : r ≠ l := nd_ne S.lv.1 (i := 1) (j := 2) rfl rfl (by decide)
theorem St33.tl : td ≠ l := nd_ne S.lv.1 (i := 0) (j := 2) rfl rfl (by decide)
theorem St33.tr : td ≠ r := nd_ne S.lv.1 (i := 0) (j := 1) rfl rfl (by decide)
theorem St33.wl' : wl ≠ l := nd_ne S.lv.1 (i := 3) (j := 2) rfl rfl (by decide)
theorem St33.wr : wl ≠ r := nd_ne S.lv.1 (i := 3) (j := 1) rfl rfl (by decide)
theorem St33.wt : wl ≠ td := nd_ne S.lv.1 (i := 3) (j := 0) rfl rfl (by decide)
theorem St33.same (s : Same H H') : St33 C Hb H' d p l r td wl b n k c ws := by
  obtain ⟨kvs, e, hl, t⟩ := S.dk
  exact ⟨S.sm.trans s, S.lv.same s, S.fr, S.sd.same s, S.ka.same s, s _ _ S.ro, s _ _ S.wo, kvs, s _ _ e, hl, t.keep fun x ys z => s _ _ z⟩
theorem St33.pd : p ≠ d ∧ p ≠ td ∧ p ≠ l ∧ p ≠ r := by
  obtain ⟨dx, hp⟩ := S.ka.1
  obtain ⟨_, _, _, _, ed, _⟩ := S.sd
  obtain ⟨kvs, e, _⟩ := S.dk
  exact ⟨(fun z => by rw [z, ed] at hp; cases hp), (fun z => by rw [z, e] at hp; cases hp), (fun z => by rw [z, S.ka.2] at hp; cases hp), (fun z => by rw [z, S.ro] at hp; cases hp)⟩
/-- asked -/
theorem St33.seen {n' c' : Nat} {kvs : List (Key × V)} (f : ∀ x o, x ≠ d → x ≠ td → H x = some o → H' x = some o) (D : Seed H' d n') (T : H' td = some (.dK kvs)) (lk : kvs.length ≤ c') (t : Tells b ws H' kvs) : St33 C Hb H' d p l r td wl b n' k c' ws := by
  obtain ⟨dx, hp⟩ := S.ka.1
  refine ⟨fun x o e => f _ _ (ne_of_none e (S.fr d (by simp))) (ne_of_none e (S.fr td (by simp))) (S.sm _ _ e), S.lv.keep fun x _ o e => ?_, S.fr, D, ⟨⟨dx, f _ _ S.pd.1 S.pd.2.1 hp⟩, f _ _ S.ld (Ne.symm S.tl) S.ka.2⟩, f _ _ S.rd (Ne.symm S.tr) S.ro, f _ _ S.wd S.wt S.wo, kvs, T, lk, t⟩
  by_cases z1 : x = d
  · rw [z1]; exact D.live
  · by_cases z2 : x = td
    · rw [z2, T]; exact fun z => by cases z
    · rw [f _ _ z1 z2 e]; exact fun z => by cases z
/-- drawn -/
theorem St33.but {n' : Nat} (B : But d H H') (D : Seed H' d n') : St33 C Hb H' d p l r td wl b n' k c ws := by
  obtain ⟨kvs, e, hl, t⟩ := S.dk
  exact S.seen (fun x o n1 _ e => B _ _ n1 e) D (B _ _ S.td' e) hl (t.keep fun x ys z => B _ _ (S.sd.ne_tup z) z)
/-- one more, or one fewer -/
theorem St33.grow {k' : Nat} (f : Frm l H H') (K : KeptAt C H' p l b (ws.take k')) : St33 C Hb (upd H' r (.lst ((ws.take k').map V.int))) d p l r td wl b n k' c ws := by
  obtain ⟨dx, hp⟩ := K.1
  obtain ⟨kvs, e, hl, t⟩ := S.dk
  have u : ∀ {x o}, x ≠ l → x ≠ r → H x = some o → (upd H' r (.lst ((ws.take k').map V.int))) x = some o := fun n1 n2 e => by rw [upd_ne n2]; exact f _ _ n1 e
  refine ⟨fun x o e => u (ne_of_none e (S.fr l (by simp))) (ne_of_none e (S.fr r (by simp))) (S.sm _ _ e), S.lv.keep fun x _ o e => ?_, S.fr, ?_, ⟨⟨dx, by rw [upd_ne S.pd.2.2.2]; exact hp⟩, by rw [upd_ne (Ne.symm S.rl)]; exact K.2⟩, upd_same, u S.wl' S.wr S.wo, kvs, u S.tl S.tr e, hl, t.keep fun x ys z => u (fun y => by rw [y, S.ka.2] at z; cases z) (fun y => by rw [y, S.ro] at z; cases z) z⟩
  · by_cases z2 : x = r
    · rw [z2, upd_same]; exact fun z => by cases z
    · by_cases z1 : x = l
      · rw [z1, upd_ne (Ne.symm S.rl), K.2]; exact fun z => by cases z
      · rw [u z1 z2 e]; exact fun z => by cases z
  · obtain ⟨a, f', k, c, z, rest⟩ := S.sd
    exact ⟨a, f', k, c, u (Ne.symm S.ld) (Ne.symm S.rd) z, rest⟩
end
theorem take_drop {ws : List Int} {k : Nat} (h : k ≤ ws.length) : (ws.take k).dropLast = ws.take (k - 1) := by
  rw [List.dropLast_eq_take, List.length_take, List.take_take]
  congr 1
  omega
theorem cut_mid (xs : List Int) (k n : Nat) (h : k ≤ xs.length) : cutV (xs.map V.int) (some (k : Int)) (some ((k : Int) + (n : Int))) = ((xs.drop k).take (min (k + n) xs.length - k)).map V.int := by
  unfold cutV
  have e1 : HT.sIx (xs.map V.int).length 0 (some (k : Int)) = k := by
    show (if (k : Int) < 0 then ((k : Int) + ((xs.map V.int).length : Int)).toNat else min (k : Int).toNat (xs.map V.int).length) = k
    rw [if_neg (by omega), List.length_map, Int.toNat_natCast]
    omega
  have e2 : HT.sIx (xs.map V.int).length (xs.map V.int).length (some ((k : Int) + (n : Int))) = min (k + n) xs.length := by
    show (if (k : Int) + (n : Int) < 0 then (((k : Int) + (n : Int)) + ((xs.map V.int).length : Int)).toNat else min ((k : Int) + (n : Int)).toNat (xs.map V.int).length) = _
    rw [if_neg (by omega), List.length_map]
    omega
  rw [e1, e2, List.map_take, List.map_drop]
theorem mid_get {xs : List Int} {k m i : Nat} (h : k + m ≤ xs.length) (hi : i < m) : ((xs.drop k).take m).getD i 0 = xs.getD (k + i) 0 := by
  rw [List.getD_eq_getElem?_getD, List.getD_eq_getElem?_getD, List.getElem?_take_of_lt hi, List.getElem?_drop]
end Tw

/-! A refusal that is not kept; a kept row made afresh, asked, led on and back. -/
namespace Tw
open PySem PySem.Spec PyProof.Rows L2
theorem takesN {X : Cx} : Takes X (fun _ _ _ _ => False) := fun _ _ ⟨_, _, _, _, _, _, _, _, _, _, _, _, _, _, _, _, w⟩ => w.elim
theorem ps_try_none {X : Cx} {x : Str} {c : Value} {body suite : List Stmt} {b0 : Stmt} {np pos pos' : Pos} {tb : WX → TS} {ts : TS} (hs : X.stack = X.env :: X.outer) (hf : X.env.frame = some X.env.locals) (hc : Names X x c)
    (hb : ∀ (W : WX) (pn : List (Addr × Obj)) (xe : Value → Shared → Prop), Takes (X.tr pn xe) W → PassesOwn (model X.prog X.w) X.A X.env xe → PSs (X.tr pn xe) body (tb W))
    (hsu : ∀ (a : Addr) (pn : List (Addr × Obj)), PSs (X.suite a pn) (b0 :: suite) ts) :
    PS X (.Try body [.ExceptHandler (some (.Name x np)) none (b0 :: suite) pos'] [] [] pos) (fun D σ H => tb (wOnly X.K c (fun _ _ _ => ts) (fun _ _ _ _ => False) D) D σ H) :=
  ps_try_only hs hf hc takesN hb fun a oe _ _ pn _ _ => hsu a ((a, oe) :: pn)
/-- all three answers, in a list -/
def pTold34 (C : Addr) : V → Hp → VK → XK → Prop := fun a H Q _ => ∃ (p l : Addr) (m : Int) (xs : List Int), a = .ref p ∧ KeptAt C H p l m xs ∧ 1 ≤ m ∧ m ≤ 1000000000000 ∧ xs.length ≤ 900 ∧ Rng m xs ∧ Fits m xs ∧ ∀ H' q vs, Same H H' → H q = none → H' q = some (.lst vs) → Tri m xs H' vs → Q (.ref q) H'
/-- a kept row made of these numbers -/
def pAfresh (C : Addr) : V → V → Hp → VK → XK → Prop := fun a b H Q _ => ∃ (r : Addr) (m : Int) (xs : List Int), a = .ref r ∧ b = .int m ∧ H r = some (.lst (xs.map V.int)) ∧ 1 ≤ m ∧ m ≤ 1000000000000 ∧ xs.length ≤ 900 ∧ Rng m xs ∧ Fits m xs ∧ ∀ H' p l, Same H H' → KeptAt C H' p l m xs → Q (.ref p) H'
/-- whether a number is let -/
def pIsLet (C : Addr) : V → V → Hp → VK → XK → Prop := fun a b H Q _ => ∃ (p l : Addr) (m n : Int) (xs : List Int), a = .ref p ∧ b = .int n ∧ KeptAt C H p l m xs ∧ 1 ≤ m ∧ m ≤ 1000000000000 ∧ xs.length ≤ 900 ∧ Rng m xs ∧ 0 ≤ n ∧ n < m ∧
  (¬ Fits m (xs ++ [n]) → ∀ H', Same H H' → Q (.bl false) H') ∧ (Fits m (xs ++ [n]) → ∀ H', Frm l H H' → KeptAt C H' p l m (xs ++ [n]) → Q (.bl true) H')
/-- a deed that is let, or none -/
def pDeed34 (C : Addr) : V → V → V → V → Hp → VK → XK → Prop := fun e a b c H Q _ => ∃ (d p l r : Addr) (n : Nat) (m : Int) (xs : List Int), e = .ref d ∧ a = .ref p ∧ b = .ref r ∧ c = .int m ∧ Seed H d n ∧ n + 4 ≤ 100000000 ∧ d ≠ l ∧ d ≠ r ∧ l ≠ r ∧ KeptAt C H p l m xs ∧ H r = some (.lst (xs.map V.int)) ∧ 1 ≤ m ∧ m ≤ 1000000000000 ∧ Rng m xs ∧ xs.length ≤ 800 ∧ Fits m xs ∧
  ∀ H' ys, Seed H' d (n + 4) → (∀ b o, b ≠ d → b ≠ l → b ≠ r → H b = some o → H' b = some o) → KeptAt C H' p l m ys → H' r = some (.lst (ys.map V.int)) → Rng m ys → Fits m ys → ys.length ≤ xs.length + 1 → Q .non H'
/-- as the stage of fits tells -/
def pBeneath (C : Addr) : V → V → Hp → VK → XK → Prop := fun a b H Q _ => ∃ (p l : Addr) (m : Int) (xs : List Int), a = .ref p ∧ b = .int m ∧ KeptAt C H p l m xs ∧ 1 ≤ m ∧ m ≤ 1000000000000 ∧ xs.length ≤ 900 ∧ Rng m xs ∧ Fits m xs ∧ ∀ H', Same H H' → Q (.bl true) H'
/-- the number behind, let and taken back -/
def pBehind34 (C : Addr) : V → V → V → Hp → VK → XK → Prop := fun e a b H Q _ => ∃ (d p l : Addr) (n : Nat) (m : Int) (xs : List Int), e = .ref d ∧ a = .ref p ∧ b = .int m ∧ Seed H d n ∧ n + 2 ≤ 100000000 ∧ d ≠ l ∧ KeptAt C H p l m xs ∧ 1 ≤ m ∧ m ≤ 1000000000000 ∧ xs.length ≤ 800 ∧ Rng m xs ∧ Fits m xs ∧
  ∀ H', Seed H' d (n + 2) → (∀ b o, b ≠ d → b ≠ l → H b = some o → H' b = some o) → KeptAt C H' p l m xs → Q (.bl true) H'
/-- all taken back, and seen again -/
def pAgain (C : Addr) : V → V → Hp → VK → XK → Prop := fun a b H Q _ => ∃ (p l : Addr) (m : Int) (xs : List Int), a = .ref p ∧ b = .int m ∧ KeptAt C H p l m xs ∧ 1 ≤ m ∧ m ≤ 1000000000000 ∧ xs.length ≤ 40 ∧ Rng m xs ∧ Fits m xs ∧ ∀ H', Frm l H H' → KeptAt C H' p l m xs → Q (.bl true) H'
theorem rulesR_two {m l s : Int} {xs : List Int} (m0 : 1 ≤ m) (F : FitR m xs (xs.length - 2) (some (l, s))) : 1 ≤ (rulesR m xs 2 (some (l, s))).length := by
  show 1 ≤ (rulesN m xs l s (howMany m 2 (some (l, s)))).length
  rw [rulesN_len]
  show 1 ≤ (min 2 (m / s)).toNat
  obtain ⟨s0, ⟨c, rfl⟩, _⟩ := F
  rw [Int.mul_ediv_cancel_left c (by omega)]
  have : 0 < c := by
    rcases Int.lt_or_le 0 c with h | h
    · exact h
    · have := Int.mul_nonpos_of_nonneg_of_nonpos (Int.le_of_lt s0) h
      omega
  omega
theorem rulesR_mem {m l s n : Int} {xs : List Int} (m0 : 1 ≤ m) (F : FitR m xs (xs.length - 2) (some (l, s))) {r : List Int} (h : r ∈ rulesR m xs n (some (l, s))) : ∃ t, r = [t, plusOf m xs t, m] ∧ 0 ≤ t ∧ t < m := by
  obtain ⟨i, hi, rfl⟩ := List.mem_map.mp (show r ∈ (List.range (howMany m n (some (l, s)))).map fun (i : Nat) => ruleOf m xs (l + (i : Int) * s) from h)
  have hi' := List.mem_range.mp hi
  replace hi' : i < (min n (m / s)).toNat := hi'
  obtain ⟨s0, ⟨c, hc⟩, l0, l1, _⟩ := F
  refine ⟨l + (i : Int) * s, rfl, ?_, ?_⟩
  · have := Int.mul_nonneg (Int.natCast_nonneg i) (Int.le_of_lt s0)
    omega
  · rw [hc, Int.mul_ediv_cancel_left c (by omega)] at hi'
    have h1 : (i : Int) ≤ c - 1 := by omega
    have h2 := Int.mul_le_mul_of_nonneg_right h1 (Int.le_of_lt s0)
    have h3 : (c - 1) * s = m - s := by rw [Int.sub_mul, hc, Int.one_mul, Int.mul_comm]
    omega
theorem tOr_true {ta tb : TT} {σ : L2.St} {H : Hp} {Q : Bool → Hp → Prop} (h : Q true H → tOr ta tb σ H Q) (k : Q true H) : tOr ta tb σ H Q := h k
theorem tOr_false {ta tb : TT} {σ : L2.St} {H : Hp} {Q : Bool → Hp → Prop} (h : Q false H → tOr ta tb σ H Q) (k : Q false H) : tOr ta tb σ H Q := h k
theorem tAnd_false {ta tb : TT} {σ : L2.St} {H : Hp} {Q : Bool → Hp → Prop} (h : Q false H → tAnd ta tb σ H Q) (k : Q false H) : tAnd ta tb σ H Q := h k
theorem shp_lay {d : PyData} (h : lay d) : SeqAt.shaped d = true := by
  show (PyData.canLay0 d && decide (PyData.depth d ≤ 64)) = true
  have := h.2
  rw [h.1, decide_eq_true (by omega)]
  rfl
theorem rng_snoc1 {m x : Int} {xs : List Int} (h : Rng m xs) (h0 : 0 ≤ x) (h1 : x < m) : Rng m (xs ++ [x]) := rng_snoc h ⟨h0, h1⟩
theorem fits_take {m : Int} {xs : List Int} (m0 : 0 < m) (h : Fits m xs) {j : Nat} (hj : j ≤ xs.length) : Fits m (xs.take j) := by
  by_cases c : j ≤ 2
  · exact fits_short m0 (by rw [List.length_take]; omega)
  · intro z
    rw [show (xs.take j).length - 2 = j - 2 by rw [List.length_take]; omega, fitR_take (by omega)] at z
    exact h (fitR_none_mono z (by omega))
theorem St32.deed3 {C d p l r : Addr} {Hb H H' : Hp} {b : Int} {n n' : Nat} {xs ys : List Int} (h : St32 C Hb H d p l r b n xs) (nd : Hb d = none) (nl : Hb l = none) (nr : Hb r = none) (f : ∀ b o, b ≠ d → b ≠ l → b ≠ r → H b = some o → H' b = some o) (D : Seed H' d n') (K : KeptAt C H' p l b ys) (R : H' r = some (.lst (ys.map V.int))) (rg : Rng b ys) (ft : Fits b ys) : St32 C Hb H' d p l r b n' ys :=
  ⟨fun c o e => f _ _ (ne_of_none e nd) (ne_of_none e nl) (ne_of_none e nr) (h.sm _ _ e), D, K, R, rg, ft⟩
end Tw

/-! A def of an own class, asked by names; an own class made by names. -/
namespace Tw
open PySem PySem.Spec PyProof.Rows L2
/-- how a def of a class binds the object and one value by its name -/
def KwM (K : PySem.W.Frag) (C : Addr) (m : Str) (ps ks : List Str) : Prop := ∃ (f : Addr) (fd : FuncData), PySem.W.findIn K (.ref C) m = some (some (.ref f)) ∧ Lk K f fd ∧ KBn K fd ps 1 ks (fun us ws => us ++ ws) (fun us ws => us ++ ws)
theorem kwM_of {K : PySem.W.Frag} {C f : Addr} {m x q : Str} {st : Stmt} {fd : FuncData} {ps ks : List Str} (F : Fun K x q st f fd) (a : PySem.W.findIn K (.ref C) m = some (some (.ref f))) (hk : ks.length = 1) (h : ∀ (s : Shared) (u v : Value), BindsTo s fd ⟨[u], ks.zip [v]⟩ (ps.zip [u, v])) : KwM K C m ps ks := by
  refine ⟨f, fd, a, lk_of F, fun s us ws _ l1 l2 => ?_, fun r z => r.append z⟩
  rw [hk] at l2
  match us, ws, l1, l2 with
  | [u], [v], _, _ => exact h s u v
section
variable {X : Cx} {CX : CXT} {k : Nat} {ps ks : List Str} {sp : Sp} {E : XK} {x m : Str} {C : Addr} {p apos pos : Pos} {o : Expr} {kws : List Keyword} {ta : TE} {tk : TA} {pl : Sem Bool}
def tMethK (C : Addr) (m : Str) (n : Nat) (sp : Sp) (E : XK) (ta : TE) (t : TA) : TE := fun σ H Q => ta σ H fun x H1 => ∃ a dx fs, x = .ref a ∧ H1 a = some (.ins C dx fs) ∧ fs.lookup m = none ∧ t σ H1 fun zs H2 => zs.length = n ∧ sp (.ref a :: zs) H2 Q E
theorem pe_mthK (he : PE X o ta) (c : Cls X.K C) (h : HasM X.prog X.w X.K X.mg X.base CX k C m ps sp) (b : KwM X.K C m ps ks) (hr : Room k X.A) (hx : Passes CX X E) (hkw : PK X kws tk)
    (hall : (backToKw pos (keywordEach kws X.env)).all (·.1.isSome) = true := by rfl) (hks : (backToKw pos (keywordEach kws X.env)).filterMap (·.1) = ks := by rfl)
    (hpl : ((backTo pos (starEach [] X.env)).any (·.1) || (backToKw pos (keywordEach kws X.env)).any (·.1.isNone)) = false := by rfl)
    (ht : eval (.Call (.Attribute o m apos) [] kws pos) X.env = (do
      let ov ← eval o X.env
      standAt apos.atName
      let (f, first) ← holding [ov] (getMethod ov m pl)
      callWith pos f first (backTo pos (starEach [] X.env)) (backToKw pos (keywordEach kws X.env))) := by rfl) : PE X (.Call (.Attribute o m apos) [] kws pos) (tMethK C m ks.length sp E ta tk) := by
  obtain ⟨f, fd, F, hm, _, lk⟩ := h
  obtain ⟨f', fd', a', lk', kb⟩ := b
  obtain rfl : f = f' := by
    have z := hm.at_.symm.trans a'
    cases z
    rfl
  obtain rfl := lk.eq lk'
  refine ⟨fun pins s σ H Q I h => ?_⟩
  refine PySem.W.methodCall_KW (pl := pl) (thn (he.run pins s σ H _ I h) fun u s1 ⟨x, H1, I1, rx, a, dx, fs, ex, ea, l, q⟩ => ?_) ht
  subst ex
  obtain rfl : u = Value.ref a := rx
  refine getmeth_ok I1 ea c hm l ?_
  refine PySem.W.callWith_KW0 (first := [.ref a]) (h₀ := X.base) I.ok.mod.kin hm.kp hall (thn (hkw.run pos pins s1 σ H1 _ I1 q) fun ws s2 y => ?_) hpl
  obtain ⟨zs, H2, I2, rz, lz, q2⟩ := y
  refine ⟨I2.kIn, ?_⟩
  rw [hks]
  exact run_fnN (vs := [.ref a]) F hr kb hx I2 (.cons rfl .nil) rz rfl lz q2
/-- how a class is made of one value by its name -/
def KwI (K : PySem.W.Frag) (C : Addr) (ps ks : List Str) : Prop := ∃ (f : Addr) (fd : FuncData), PySem.W.findIn K (.ref C) "__init__" = some (some (.ref f)) ∧ Lk K f fd ∧ KBn K fd ps 1 ks (fun us ws => us ++ ws) (fun us ws => us ++ ws)
theorem pe_mkOK (h : HasI X.prog X.w X.K X.mg X.base CX k C ps sp) (b : KwI X.K C ps ks) (hr : Room (k + 1) X.A) (hm : X.mg x = some (.ref C)) (hx : Passes CX X E) (hkw : PK X kws tk) (hg : Gl X x := by rfl)
    (hall : (backToKw pos (keywordEach kws X.env)).all (·.1.isSome) = true := by rfl) (hks : (backToKw pos (keywordEach kws X.env)).filterMap (·.1) = ks := by rfl)
    (hdb : (x == ("__debug__" : Str)) = false := by decide) (hpl : ((backTo pos (starEach [] X.env)).any (·.1) || (backToKw pos (keywordEach kws X.env)).any (·.1.isNone)) = false := by rfl) :
    PE X (.Call (.Name x p) [] kws pos) (tMakeK C 0 ks.length sp (fun us ws => us ++ ws) E tNil tk) := by
  obtain ⟨f, fd, F, M, _, lk⟩ := h
  obtain ⟨f', fd', a', lk', kb⟩ := b
  obtain rfl : f = f' := by
    have z := M.init.symm.trans a'
    cases z
    rfl
  obtain rfl := lk.eq lk'
  exact pe_makeK0 M F hr hg hm kb hx hkw hall hks hdb hpl
end
end Tw

/-! X(number = v): the own initialiser reached by a keyword. -/
namespace Tw
open PySem PySem.Spec L2
section
variable {prog : Program} {w : World} {M : Model} {A : Around} {E : Value → Shared → Prop} {R : Result → Shared → Prop} {h : Heap} {gs : Array GenState} {dr : Drawn} {tk : Nat} {os : OsState}
variable {nm q : Str} {C N fI : Addr} {bs bm bmB : List Value} {hdct : Bool} {sn : List Str} {sub : List Value} {ab : Bool} {col : Option Bool} {dd : Option Addr} {k0 k1 k2 k3 k5 : Option Value} {v : Value} {B newId initId : String}
abbrev kwN (v : Value) : List (Str × Value) := [("number", v)]
theorem chkNew {Q : Unit → Shared → Prop} (hT : ∀ Y : String, bm.contains (.type Y) = bmB.contains (.type Y)) (F : ExcBaseFacts B newId initId bmB)
    (hC : h.get? C = some (excClassObj nm q C N bs bm hdct sn sub ab col dd k0 k1 k2 k3 k5 newId)) (y : Q () ⟨h, gs, dr, tk, os⟩) :
    wpAny M A (checkBuiltinCall newId ⟨[.ref C], kwN v⟩) Q E ⟨h, gs, dr, tk, os⟩ := by
  have inB : (Value.ref C :: bm).contains (.type B) = true := by
    rw [List.contains_cons, hT, F.hasB]
    exact Bool.or_true _
  have _star := F.noStar
  simp only [checkBuiltinCall, F.newKind, F.newSplit, F.newRow]
  repeat (first
    | refine wpAny_loadPart_at hC ?_
    | (refine wpAny_isSubtype_exc hC ?_; rw [inB])
    | refine wpAny_staticBase_exc hC ?_
    | refine wpAny_madeBy_exc hC ?_
    | simp only [bne_self_eq_false, Bool.false_eq_true, if_false]
    | wp_step)
  exact y
theorem newKw (hT : ∀ Y : String, bm.contains (.type Y) = bmB.contains (.type Y)) (F : ExcBaseFacts B newId initId bmB)
    (hC : h.get? C = some (excClassObj nm q C N bs bm hdct sn sub ab col dd k0 k1 k2 k3 k5 newId))
    (y : R (.ok (.ret (.ref (h.objs.size + 1)))) ⟨(h.push (PySem.W.kdv_tup [])).push (PySem.HandSPX.excO C h.objs.size), gs, dr, tk, os⟩) :
    codeAny (model prog w) A (.builtin newId ⟨[.ref C], kwN v⟩) R ⟨h, gs, dr, tk, os⟩ := by
  have _ends := F.ends
  have cB : (Value.ref C :: bm).contains (.type B) = true := by
    rw [List.contains_cons, hT, F.hasB]
    exact Bool.or_true _
  have cA : (Value.ref C :: bm).contains (.type "AttributeError") = false := by
    rw [List.contains_cons, hT, F.noAttr]
    rfl
  have cN : (Value.ref C :: bm).contains (.type "NameError") = false := by
    rw [List.contains_cons, hT, F.noName]
    rfl
  refine codeAny_builtinAt F.entry ?_
  unfold Builtin.«BaseException.__new__»
  refine PySem.wpAt_bind ?_
  show PySem.wpAt _ _ _ (stack >>= _) _ _ _
  refine PySem.wpAt_bind (PySem.wpAt_stack fun p below => PySem.wpAt_of_wpAny ?_)
  wp_walk
  refine PySem.wpAt_of_wpAny ?_
  rw [F.owner]
  repeat (first
    | with_reducible refine wpAny_madeHere_exc F.canon hC ?_
    | with_reducible refine wpAny_loadPart_at hC ?_
    | (with_reducible refine wpAny_isSubtype_exc hC ?_; first | rw [cB] | rw [cA] | rw [cN])
    | wp_step)
  show R _ _
  rw [Heap.size_push]
  exact y
theorem typeKw {Q : Fin → Shared → Prop} (hT : ∀ Y : String, bm.contains (.type Y) = bmB.contains (.type Y)) (F : ExcBaseFacts B newId initId bmB)
    (hC : h.get? C = some (excClassObj nm q C N bs bm hdct sn sub ab col dd k0 k1 k2 k3 k5 newId))
    (hi : W.Looks (model prog w) h (typeLookup (.ref C) "__init__") (some (.ref fI))) (hb : ∀ self, W.Looks (model prog w) h (bindSpecial (.ref fI) self) (.ref fI, [self]))
    (y : codeAny (model prog w) A (.call (.ref fI) ⟨[.ref (h.objs.size + 1)], kwN v⟩) (fun r s' => match r with | .ok (.ret u) => u = .none ∧ Q (.done (.ret (.ref (h.objs.size + 1)))) s' | .ok _ => False | .error e => E e s')
      ⟨(h.push (PySem.W.kdv_tup [])).push (PySem.HandSPX.excO C h.objs.size), gs, dr, tk, os⟩) :
    wpAny (model prog w) A (Builtin.«type.__call__» ⟨[.ref C], kwN v⟩) Q E ⟨h, gs, dr, tk, os⟩ := by
  repeat (first
    | with_reducible refine wpAny_loadPart_at hC ?_
    | with_reducible refine wpAny_madeBy_exc hC ?_
    | wp_step)
  refine codeAny_call_builtin_code (Code.quiet_builtin _ F.quiet) (chkNew hT F hC ?_)
  refine newKw hT F hC ?_
  show wpAny _ _ _ _ _ _
  have up : ∀ b o, h.get? b = some o → ((h.push (PySem.W.kdv_tup [])).push (PySem.HandSPX.excO C h.objs.size)).get? b = some o := fun b o e => Heap.get?_push_of_some _ (Heap.get?_push_of_some _ e)
  have hC1 := up _ _ hC
  have ge : ((h.push (PySem.W.kdv_tup [])).push (PySem.HandSPX.excO C h.objs.size)).get? (h.objs.size + 1) = some (PySem.HandSPX.excO C h.objs.size) := by heap_get
  have self1 : (Value.ref C :: bm).contains (.ref C) = true := by simp
  have i1 := hi.keeps up
  have b1 := (hb (.ref (h.objs.size + 1))).keeps up
  unfold isInstance
  repeat (first
    | with_reducible refine wpAny_loadPart_at ge ?_
    | (with_reducible refine wpAny_isSubtype_exc hC1 ?_; rw [self1])
    | wp_step)
  show wpAny _ _ (typeLookup (.ref C) _) _ _ _
  refine i1.at ?_
  refine wpAny_holding (wpAny_bind (b1.at ?_))
  refine wpAny_bind (wpAny_call (codeAny_mono y fun r s' z => ?_))
  rcases r with e | (u | _ | _ | _) <;> first | exact z | exact z.elim | skip
  obtain ⟨rfl, z⟩ := z
  first
    | exact wpAny_pure (wpAny_pure z)
    | (wp_walk; exact z)
theorem chkCall {Q : Unit → Shared → Prop} (hC : h.get? C = some (excClassObj nm q C N bs bm hdct sn sub ab col dd k0 k1 k2 k3 k5 newId)) (y : Q () ⟨h, gs, dr, tk, os⟩) :
    wpAny M A (checkBuiltinCall "type.__call__" ⟨[.ref C], kwN v⟩) Q E ⟨h, gs, dr, tk, os⟩ := by
  have f3 := tc_sub
  have ty : (⟨h, gs, dr, tk, os⟩ : Shared).TypeIs (.ref C) "type" := ⟨_, hC, rfl⟩
  simp only [checkBuiltinCall, tc_kind, tc_split]
  repeat (any_goals (first
    | assumption
    | with_reducible refine wpAny_loadPart_at hC ?_
    | with_reducible refine wpAny_onRaise ?_
    | with_reducible refine wpAny_map ?_
    | wp_step))
theorem callKw (hT : ∀ Y : String, bm.contains (.type Y) = bmB.contains (.type Y)) (F : ExcBaseFacts B newId initId bmB)
    (hC : h.get? C = some (excClassObj nm q C N bs bm hdct sn sub ab col dd k0 k1 k2 k3 k5 newId))
    (hi : W.Looks (model prog w) h (typeLookup (.ref C) "__init__") (some (.ref fI))) (hb : ∀ self, W.Looks (model prog w) h (bindSpecial (.ref fI) self) (.ref fI, [self]))
    (y : codeAny (model prog w) (A.under (.builtin "type.__call__" ⟨[.ref C], kwN v⟩)) (.call (.ref fI) ⟨[.ref (h.objs.size + 1)], kwN v⟩) (W.InitBack (h.objs.size + 1) R)
      ⟨(h.push (PySem.W.kdv_tup [])).push (PySem.HandSPX.excO C h.objs.size), gs, dr, tk, os⟩) : codeAny (model prog w) A (.call (.ref C) ⟨[], kwN v⟩) R ⟨h, gs, dr, tk, os⟩ := by
  have f1 := tc_lookup
  have f2 := tc_bind (.ref C)
  have ty : (⟨h, gs, dr, tk, os⟩ : Shared).TypeIs (.ref C) "type" := ⟨_, hC, rfl⟩
  refine codeAny_of_tree ?_
  show wpAny _ _ (callAny (.ref C) _) _ _ _
  repeat (any_goals (first
    | assumption
    | with_reducible refine wpAny_loadPart_at hC ?_
    | wp_step))
  refine ⟨rfl, ?_⟩
  refine codeAny_call_builtin_at (Code.quiet_builtin _ (by decide +kernel)) entry_typeCall (chkCall hC (typeKw hT F hC hi hb ?_))
  refine codeAny_mono y fun r s' z => ?_
  rcases r with e | (u | _ | _ | _) <;> exact z
end
end Tw
namespace Tw
open PySem PySem.Spec PyProof.Rows L2
def tMkK (C : Addr) (sp : Sp) (te : TE) : TE := fun σ H Q => tCons te tNil σ H fun zs H1 => ∃ y, zs = [y] ∧ ∀ a, H1 a = none → sp [.ref a, y] (upd H1 a (exo a C none)) (fun v H2 => v = .non ∧ Q (.ref a) H2) (fun _ _ _ => False)
theorem pe_oexK {X : Cx} {CX : CXT} {x : Str} {C fI : Addr} {k : Nat} {fd : FuncData} {ps : List Str} {sp : Sp} {e : Expr} {te : TE} {p pos kpos : Pos} (T : OexC X.K C) (iC : PySem.W.findIn X.K (.ref C) "__init__" = some (some (.ref fI))) (tI : PySem.W.typeIn X.K (.ref fI) = some (.type "function"))
    (F1 : FnOk X.prog X.w X.K X.mg X.base CX k fI fd ps sp) (hr : Room (k + 1) X.A) (hb : ∀ (s : Shared) (u y : Value), BindsTo s fd ⟨[u], kwN y⟩ (ps.zip [u, y])) (hx : Passes CX X (fun _ _ _ => False)) (hm : X.mg x = some (.ref C)) (he : PE X e te) (hg : Gl X x := by rfl)
    (hall : (backToKw pos (keywordEach [⟨some "number", e, kpos⟩] X.env)).all (·.1.isSome) = true := by rfl) (hks : (backToKw pos (keywordEach [⟨some "number", e, kpos⟩] X.env)).filterMap (·.1) = [("number" : Str)] := by rfl) (hdb : (x == ("__debug__" : Str)) = false := by decide)
    (hpl : ((backTo pos (starEach [] X.env)).any (·.1) || (backToKw pos (keywordEach [⟨some "number", e, kpos⟩] X.env)).any (·.1.isNone)) = false := by rfl) :
    PE X (.Call (.Name x p) [] [⟨some "number", e, kpos⟩] pos) (tMkK C sp te) := by
  refine ⟨fun pins s σ H Q I h => wpAny_Call_Name_kw (ld_glob I hg hm ?_ hdb)⟩
  obtain ⟨nm, q, N, bs, bm, sn, sub, ab, col, dd, k0, k1, k2, k3, k5, hC, hbm⟩ := T.cls
  have PKs : PK X [⟨some "number", e, kpos⟩] (tCons te tNil) := pk_cons he pk_nil
  refine PySem.W.callWith_KW0 (h₀ := X.base) I.ok.mod.kin T.kC hall (thn (PKs.run pos pins s σ H _ I h) fun ws s1 y => ?_) hpl
  obtain ⟨zs, H1, I1, r1, y, rfl, q1⟩ := y
  obtain ⟨u, rfl, ru⟩ := r1.one
  refine ⟨I1.kIn, ?_⟩
  rw [hks]
  show wpAny _ _ (call (.ref C) [] (kwN u)) _ _ _
  obtain ⟨hp, gs, dr, tk, os⟩ := s1
  have le1 : hp.objs.size ≤ hp.objs.size + 1 := Nat.le_succ _
  have hn : H1 (hp.objs.size + 1) = none := I1.hok.fresh le1
  have hq := q1 (hp.objs.size + 1) hn
  have hget : ((hp.push (PySem.W.kdv_tup [])).push (PySem.HandSPX.excO C hp.objs.size)).get? (hp.objs.size + 1) = some (PySem.HandSPX.excO C hp.objs.size) := by heap_get
  have I2 := I1.laid (t' := tk) (a := hp.objs.size + 1) (o := exo (hp.objs.size + 1) C none) (h' := (hp.push (PySem.W.kdv_tup [])).push (PySem.HandSPX.excO C hp.objs.size)) (fun b o e => Heap.get?_push_of_some _ (Heap.get?_push_of_some _ e)) le1 (exo_ok hget)
  have r2 : Vals [V.ref (hp.objs.size + 1), y] [Value.ref (hp.objs.size + 1), u] := .cons rfl (.cons ru .nil)
  refine wpAny_call (callKw (fun Y => PySem.HandSPX.refsVE_contains Y bm hbm) F.excBase_ValueError (I1.kIn _ _ hC) (PySem.W.looks_findIn I1.kIn iC) (fun self => PySem.W.bind_fn I1.kIn self tI)
    (codeAny_mono (F1.run _ X.stack _ _ ⟨[Value.ref (hp.objs.size + 1)], kwN u⟩ _ _ _ (fun _ _ _ => False) (hr.make C [] (kwN u)) (I2.env0.make C [] (kwN u)) (hb _ _ _) r2 hq) fun r s' y => ?_))
  cases r with
  | error er => exact hx pins σ _ _ er s' I2 y
  | ok fl =>
    cases fl with
    | ret u =>
      obtain ⟨v, H', I3, rv, ev, q3⟩ := I2.after y
      subst ev
      exact ⟨rv, .ref (hp.objs.size + 1), H', I3, rfl, q3⟩
    | next => exact y.elim
    | brk => exact y.elim
    | cont => exact y.elim
end Tw

/-! The head by one run in the kernel: the defs by name, the refusals' classes by Booleans, the empty tables of the defs that hold a generator expression. -/
namespace Tw
open PySem PySem.Spec PyProof.Rows L2
abbrev Fr : Type := PySem.W.Frag
/-! ### the hook -/
abbrev asK (g : Addr → Option Obj) (n : Nat) : List Addr := cStatics :: He.asD g n
structure SaysK (fa : List He.Fa) (fn : List He.DefD) (tf : List He.Defn) (ex : Fr → Bool) (h : Heap) (K : Fr) : Prop where
  d : He.SaysD fa fn K
  more : ex K = true
  hd : ∀ p ∈ tf, PySem.W.codeHdIn K (He.cT K p).1 (He.cT K p).2 = true
  out : ∀ p ∈ tf, K.lookup (He.cT K p).2 = none
  empty : ∀ p ∈ tf, h.get? (He.cT K p).2 = some { cls := .none, data := .fields #[] }
abbrev AlK : Type := He.AlD × Bool
def obsK (n : Nat) (fa : List He.Fa) (fn : List He.DefD) (tf : List He.Defn) (ex : Fr → Bool) (g : Addr → Option Obj) : AlK := (He.obsD fa fn (He.frT g (asK g n)), ex (He.frT g (asK g n)) && He.tabsB g tf (He.frT g (asK g n)))
def valK (fn : List He.DefD) : AlK := (He.valD fn, true)
theorem saysK_of {n : Nat} {fa : List He.Fa} {fn : List He.DefD} {tf : List He.Defn} {ex : Fr → Bool} {h : Heap} (e : obsK n fa fn tf ex h.get? = valK fn) : SaysK fa fn tf ex h (He.frT h.get? (asK h.get? n)) := by
  have e1 : He.obsD fa fn (He.frT h.get? (asK h.get? n)) = He.valD fn := congrArg (fun z : AlK => z.1) e
  have e2 : (ex (He.frT h.get? (asK h.get? n)) && He.tabsB h.get? tf (He.frT h.get? (asK h.get? n))) = true := congrArg (fun z : AlK => z.2) e
  obtain ⟨h1, h2⟩ := He.ba e2
  have key : ∀ p ∈ tf, PySem.W.codeHdIn (He.frT h.get? (asK h.get? n)) (He.cT (He.frT h.get? (asK h.get? n)) p).1 (He.cT (He.frT h.get? (asK h.get? n)) p).2 = true ∧ ∃ o, h.get? (He.cT (He.frT h.get? (asK h.get? n)) p).2 = some o ∧ He.emptyTab o = true := fun p hp => by
    obtain ⟨h3, h4⟩ := He.ba (List.all_eq_true.mp h2 p hp)
    refine ⟨h3, ?_⟩
    cases q : h.get? (He.cT (He.frT h.get? (asK h.get? n)) p).2 with
    | none =>
      rw [q] at h4
      cases h4
    | some o =>
      rw [q] at h4
      exact ⟨o, rfl, h4⟩
  exact ⟨e1, h1, fun p hp => (key p hp).1, fun p hp => by
    obtain ⟨_, o, q, z⟩ := key p hp
    exact He.frT_none q z, fun p hp => by
    obtain ⟨_, o, q, z⟩ := key p hp
    rw [q, He.emptyTab_eq z]⟩
def hookK (n : Nat) (fa : List He.Fa) (fn : List He.DefD) (tf : List He.Defn) (ex : Fr → Bool) : PySem.W.Hook where
  α := AlK
  obs := fun s => obsK n fa fn tf ex s.heap.get?
  val := fun _ => valK fn
  says := fun _ h => ∃ K : Fr, K.In h ∧ SaysK fa fn tf ex h K
  of := fun _ _ e => ⟨_, He.frT_in, saysK_of e⟩
  keeps := fun _ _ _ ⟨K, hK, c⟩ k => ⟨K, PySem.W.Frag.In.keeps hK k, ⟨c.d, c.more, c.hd, c.out, fun p hp => k _ _ (c.empty p hp)⟩⟩
theorem obsK_eq {n : Nat} {fa : List He.Fa} {fn : List He.DefD} {tf : List He.Defn} {ex : Fr → Bool} {g : Addr → Option Obj} {s : Shared} (h : ∀ a, g a = s.heap.get? a) : obsK n fa fn tf ex g = (hookK n fa fn tf ex).obs s := by
  have e : g = s.heap.get? := funext h
  rw [e] <;> rfl
/-! ### defs -/
abbrev dOf (x : Str) (st : Stmt) : He.DefD := ⟨(x, none), x, x, defArgs st, defBody st, defScope st, [], []⟩
abbrev mOf (C m q : Str) (st : Stmt) : He.DefD := ⟨(C, some m), m, q, defArgs st, defBody st, defScope st, [], []⟩
section
variable {K : Fr} {h : Heap} {mg : Str → Option Value}
theorem fun_of {x q : Str} {st : Stmt} {f : Addr} {fd : FuncData} (F : FunD K x q (defArgs st) (defBody st) (defScope st) [] [] f fd) : Fun K x q st f fd := by
  obtain ⟨⟨oc, od, dV, kV, doc, pm, an, cdv, ct, osl, e, lk, hc, dv, _⟩, kp⟩ := F
  rcases dv with ⟨_, rfl⟩ | ⟨z, _⟩
  · exact ⟨⟨oc, od, kV, doc, pm, an, cdv, ct, osl, e, lk, hc⟩, kp⟩
  · exact absurd rfl z
theorem top_of {x : Str} {st : Stmt} {ps : List Str} (X : K.In h) (G : h.Ns mainGlobals mg) (D : ∃ fd, FunD K x x (defArgs st) (defBody st) (defScope st) [] [] (He.ga K x) fd) (g : (He.Fa.glo x).ok K = true)
    (hb : ∀ (kV doc pm : Value) (an : Option Addr) (cdv ct : Value) (us : List Value), us.length = ps.length → bindArgs (PySem.W.fnOf x x (defArgs st) (defBody st) (defScope st) .none kV doc pm an cdv ct) ⟨us, []⟩ = pure (ps.zip us)) : Top K mg x st ps := by
  obtain ⟨fd, F⟩ := D
  have F' := fun_of F
  exact ⟨_, fd, F', He.glo_ok X G g, F'.binds hb⟩
theorem topC_of {x : Str} {st : Stmt} {ps : List Str} (X : K.In h) (G : h.Ns mainGlobals mg) (D : ∃ fd, FunD K x x (defArgs st) (defBody st) (defScope st) [] [] (He.fAd K (x, none)) fd) (g : (He.Fa.glo x).ok K = true)
    (hb : ∀ (kV doc pm : Value) (an : Option Addr) (cdv ct : Value) (us : List Value), us.length = ps.length → bindArgs (PySem.W.fnOf x x (defArgs st) (defBody st) (defScope st) .none kV doc pm an cdv ct) ⟨us, []⟩ = pure (ps.zip us)) : TopC K mg x st ps (He.cT K (x, none)).1 := by
  obtain ⟨fd, ⟨oc, od, dV, kV, doc, pm, an, cdv, ct, osl, rfl, lk, hc, dv, _⟩, kp⟩ := D
  obtain ⟨c, rfl⟩ := He.codeIn_ref hc
  have ec : He.codeOf K (x, none) = c := He.codeOf_eq lk rfl
  rcases dv with ⟨_, rfl⟩ | ⟨z, _⟩
  · have e2 : (He.cT K (x, none)).1 = c := ec
    rw [e2]
    exact ⟨_, oc, od, kV, doc, pm, an, ct, osl, lk, hc, kp, He.glo_ok X G g, .all (hb kV doc pm an (.ref c) ct)⟩
  · exact absurd rfl z
end
theorem TopC.kw {K : Fr} {mg : Str → Option Value} {x : Str} {st : Stmt} {ps ks : List Str} {c : Addr} {g : List Value → List Value → List Value} {gV : List V → List V → List V} (D : TopC K mg x st ps c)
    (hb : ∀ (kV doc pm : Value) (an : Option Addr) (cdv ct : Value) (us ws : List Value), (g us ws).length = ps.length → bindArgs (PySem.W.fnOf x x (defArgs st) (defBody st) (defScope st) .none kV doc pm an cdv ct) ⟨us, ks.zip ws⟩ = pure (ps.zip (g us ws)))
    (rel : ∀ {vs : List V} {us : List Value} {zs : List V} {ws : List Value}, Vals vs us → Vals zs ws → Vals (gV vs zs) (g us ws)) : KwOf K mg x ps ks g gV := by
  obtain ⟨f, oc, od, kV, doc, pm, an, ct, osl, lk, _, _, m, _⟩ := D
  exact ⟨f, _, m, ⟨oc, od, osl, lk⟩, ⟨fun s us ws _ hl => .of_eq (hb kV doc pm an (.ref c) ct us ws hl), rel⟩⟩
/-! ### the refusals' classes -/
def xcB (K : Fr) (C : Addr) : Bool := PySem.W.isClsIn K C && (He.eqO (PySem.W.findIn K (.ref C) "__getattribute__") (some (some (.builtin "BaseException.__getattribute__"))) && (He.eqO (PySem.W.findIn K (.ref C) "__getattr__") (some none) &&
  (decide (PySem.W.subIn K (.ref C) (.type "BaseException") = some true) && (PySem.W.hasDictIn K C && (He.eqO (PySem.W.findIn K (.ref C) "__class__") (some (some (.builtin "object.__class__"))) &&
  (He.eqO (PySem.W.specialIn K (.builtin "object.__class__") "__get__") (some (some (.builtin "getset_descriptor.__get__"))) && (decide (PySem.W.takesIn K (.builtin "object.__class__") = some true) && decide (PySem.W.mroIn K C (.type "object") = some true))))))))
theorem xcB_ok {K : Fr} {C : Addr} (h : xcB K C = true) : XcC K C := by
  obtain ⟨a1, h⟩ := He.ba h
  obtain ⟨a2, h⟩ := He.ba h
  obtain ⟨a3, h⟩ := He.ba h
  obtain ⟨a4, h⟩ := He.ba h
  obtain ⟨a5, h⟩ := He.ba h
  obtain ⟨a6, h⟩ := He.ba h
  obtain ⟨a7, h⟩ := He.ba h
  obtain ⟨a8, a9⟩ := He.ba h
  exact ⟨a1, He.eqO_ok a2, He.eqO_ok a3, of_decide_eq_true a4, a5, He.eqO_ok a6, He.eqO_ok a7, of_decide_eq_true a8, of_decide_eq_true a9⟩
def kitB (K : Fr) (C CR CA CB CF CN CU : Addr) (a b f n u : Bool) : Bool := xcB K C && (decide (PySem.W.kitOne K (.ref C) (.ref CR) = some true) && (decide (PySem.W.kitOne K (.ref C) (.type "ValueError") = some true) && (decide (PySem.W.kitOne K (.ref C) (.ref CA) = some a) &&
  (decide (PySem.W.kitOne K (.ref C) (.ref CB) = some b) && (decide (PySem.W.kitOne K (.ref C) (.ref CF) = some f) && (decide (PySem.W.kitOne K (.ref C) (.ref CN) = some n) && decide (PySem.W.kitOne K (.ref C) (.ref CU) = some u)))))))
theorem kitB_ok {K : Fr} {C CR CA CB CF CN CU : Addr} {a b f n u : Bool} (h : kitB K C CR CA CB CF CN CU a b f n u = true) : Kit K C CR CA CB CF CN CU a b f n u := by
  obtain ⟨a1, h⟩ := He.ba h
  obtain ⟨a2, h⟩ := He.ba h
  obtain ⟨a3, h⟩ := He.ba h
  obtain ⟨a4, h⟩ := He.ba h
  obtain ⟨a5, h⟩ := He.ba h
  obtain ⟨a6, h⟩ := He.ba h
  obtain ⟨a7, a8⟩ := He.ba h
  exact ⟨xcB_ok a1, of_decide_eq_true a2, of_decide_eq_true a3, of_decide_eq_true a4, of_decide_eq_true a5, of_decide_eq_true a6, of_decide_eq_true a7, of_decide_eq_true a8⟩
/-- the kit by names -/
abbrev kitN (K : Fr) (x : Str) (a b f n u : Bool) : Bool := kitB K (He.ga K x) (He.ga K "RowError") (He.ga K "NoAsk") (He.ga K "NoBack") (He.ga K "NoFit") (He.ga K "NoNumber") (He.ga K "NoRule") a b f n u
def oexB (K : Fr) (C : Addr) : Bool := (match K.lookup C with
  | some ⟨.type "type", _, .cls cd, sl⟩ => (match cd.mro, sl.toList with
    | .ref C' :: bm, [_, _, _, _, some (.builtin n), _] => C' == C && n == "ValueError.__new__" && !cd.hasDel && cd.hasDict && PySem.HandSPX.refsVE bm
    | _, _ => false)
  | _ => false) && (He.eqO (PySem.W.findIn K (.ref C) "__setattr__") (some (some (.builtin "object.__setattr__"))) && (decide (PySem.W.subIn K (.ref C) (.type "BaseException") = some true) && (decide (PySem.W.typeIn K (.ref C) = some (.type "type")) && PySem.W.keepIn K (.ref C))))
theorem oexB_ok {K : Fr} {C : Addr} (h : oexB K C = true) : OexC K C := by
  obtain ⟨q, h⟩ := He.ba h
  obtain ⟨a2, h⟩ := He.ba h
  obtain ⟨a3, h⟩ := He.ba h
  obtain ⟨a4, a5⟩ := He.ba h
  refine ⟨?_, He.eqO_ok a2, of_decide_eq_true a3, of_decide_eq_true a4, a5⟩
  split at q
  · rename_i dd cd sl ho
    split at q
    · rename_i C' bm k0 k1 k2 k3 n k5 hm hs
      simp only [Bool.and_eq_true, beq_iff_eq, Bool.not_eq_true'] at q
      obtain ⟨⟨⟨⟨rfl, rfl⟩, hdel⟩, hdi⟩, ht⟩ := q
      obtain ⟨nm, bs, mro, ns, qn, hd, sn, sub, ab, col, del⟩ := cd
      dsimp only at hm hdel hdi
      subst hm hdel hdi
      have hsl : sl = #[k0, k1, k2, k3, some (.builtin "ValueError.__new__"), k5] := by
        obtain ⟨l⟩ := sl
        simp only at hs
        rw [hs]
      subst hsl
      exact ⟨nm, qn, ns, bs, bm, sn, sub, ab, col, dd, k0, k1, k2, k3, k5, ho, ht⟩
    · cases q
  · cases q
def rdB (K : Fr) (C : Addr) : Bool := PySem.W.readsIn K C (.type "type") && (He.eqO (PySem.W.specialIn K (.ref C) "__getattribute__") (some (some (.builtin "type.__getattribute__"))) && (match PySem.W.findCls K (.ref C) (.type "type") "__init__" with
  | some (.val (.builtin n)) => n == "ValueError.__init__"
  | _ => false))
theorem rdB_ok {K : Fr} {C : Addr} (h : rdB K C = true) : ClX.CRead K C (.type "type") ∧ PySem.W.findCls K (.ref C) (.type "type") "__init__" = some (.val (.builtin "ValueError.__init__")) := by
  obtain ⟨a1, h⟩ := He.ba h
  obtain ⟨a2, q⟩ := He.ba h
  refine ⟨⟨a1, He.eqO_ok a2⟩, ?_⟩
  split at q
  · rename_i n e
    rw [beq_iff_eq] at q
    subst q
    exact e
  · cases q
/-- what is asked of NoNumber and of its base -/
def numB (K : Fr) : Bool := oexB K (He.ga K "NoNumber") && rdB K (He.ga K "RowError")
def exmB (K : Fr) (x y : Str) : Bool := decide (PySem.W.exmOne K (.ref (He.ga K x)) (.ref (He.ga K y)) = some true)
def strB (K : Fr) (x : Str) : Bool := He.eqO (PySem.W.findIn K (.ref (He.ga K x)) "__str__") (some (some (.builtin "BaseException.__str__")))
/-! ### the end -/
def spLawT (K : PySem.W.Frag) (P1 P2 : Addr) : Sp := sp1 fun a H Q _ => ∃ (sa : Addr) (xs : List Int), a = .ref sa ∧ SqL K H sa (xs.map V.int) ∧ GxR.TabG H P1 ∧ GxR.TabG H P2 ∧ ∀ H', Q (.bl true) H'
theorem tabB_of {h : Heap} {mg : Str → Option Value} {c P : Addr} (T : LamX.TabB h mg c P) : GxR.TabB h mg c P := ⟨T.code, T.bm, T.gP⟩
theorem tabG_nil {H : Hp} {P : Addr} (e : H P = some (.tbl #[])) : GxR.TabG H P := ⟨#[], e, by first | trivial | exact .nil | simp [TriplesOk]⟩
end Tw

/-! Written tables of the module, with text keys; a def out of such a table, called; the desk. -/
namespace Tw
open PySem PySem.Spec PyProof.Rows L2
/-- at the key z stands v -/
def Ent (K : PySem.W.Frag) (d : Addr) (z : Str) (v : V) : Prop := ∃ u0, PySem.W.nsIn K d z = some (some u0) ∧ RelV v u0
/-- whether z is a key -/
def Key? (K : PySem.W.Frag) (d : Addr) (z : Str) (b : Bool) : Prop := ∃ r, PySem.W.nsIn K d z = some r ∧ r.isSome = b
theorem Ent.key {K : PySem.W.Frag} {d : Addr} {z : Str} {v : V} (h : Ent K d z v) : Key? K d z true := by
  obtain ⟨u, e, _⟩ := h
  exact ⟨_, e, rfl⟩
def rIxK (K : PySem.W.Frag) (d : Addr) : R2 := fun x y H Q => ∃ (z : Str) (v0 : V), x = .ref d ∧ y = .str z ∧ Ent K d z v0 ∧ Q v0 H
def rNiK (K : PySem.W.Frag) (d : Addr) : R2 := fun x y H Q => ∃ (z : Str) (b : Bool), x = .str z ∧ y = .ref d ∧ Key? K d z b ∧ Q (.bl (!b)) H
section
variable {X : Cx} {d : Addr} {es : Array DictEntry} {n : Nat}
theorem ix_kd {K : PySem.W.Frag} (hK : X.K = K) (D : KDict X.K X.w d es n) : IxR X (rIxK K d) := by
  subst hK
  intro value slice pins s σ H x y v u Q I rx ry h hs
  obtain ⟨z, v0, rfl, rfl, ⟨u0, e, r⟩, q⟩ := h
  cases rx
  obtain ⟨t, rfl⟩ := ry
  refine tail_any (kd_type D I) PySem.F.slot_dict_getitem.lookup ?_ hs
  exact wpAny_getItem_of (PySem.strKind_is X.prog X.w z t) (PySem.W.mapOf_K (prog := X.prog) I.kIn D.at_ D.lit) (PySem.W.find_K D.at_ e) ⟨v0, H, I.tok _, r, q⟩
theorem op_niK {K : PySem.W.Frag} (hK : X.K = K) (D : KDict X.K X.w d es n) : OpR X (compareOp .NotIn) (rNiK K d) := by
  subst hK
  intro pins s σ H x y v u Q I rx ry h
  obtain ⟨z, b, e1, e2, ⟨r, e, eb⟩, q⟩ := h
  exact op_notIn_kd D pins s σ H x y v u Q I rx ry ⟨z, r, e1, e2, e, by rw [eb]; exact q⟩
end
/-- a def that may be called, by its address -/
def HeldX (P : Program) (w : World) (K : PySem.W.Frag) (mg : Str → Option Value) (base : Heap) (CX : CXT) (k : Nat) (f : Addr) (sp : Sp) : Prop := ∃ (fd : FuncData) (ps : List Str), FnOk P w K mg base CX k f fd ps sp ∧ PySem.W.keepIn K (.ref f) = true ∧ Binds K fd ps []
theorem Has.held {P : Program} {w : World} {K : PySem.W.Frag} {mg : Str → Option Value} {base : Heap} {CX : CXT} {k : Nat} {x : Str} {ps : List Str} {sp : Sp} {f : Addr} (h : Has P w K mg base CX k x ps sp) (hm : mg x = some (.ref f)) : HeldX P w K mg base CX k f sp := by
  obtain ⟨f', fd, F, m, kp, b, _⟩ := h
  obtain rfl : f' = f := by
    have z := m.symm.trans hm
    cases z
    rfl
  exact ⟨fd, ps, F, kp, b⟩
def tCallH (P : Program) (w : World) (K : PySem.W.Frag) (mg : Str → Option Value) (base : Heap) (CX : CXT) (k i : Nat) (E : XK) (t : TA) : TE := fun σ H Q => ∃ f sp, σ[i]? = some (some (.ref f)) ∧ HeldX P w K mg base CX k f sp ∧ t σ H fun vs H1 => sp vs H1 Q E
section
variable {X : Cx} {CX : CXT} {k i : Nat} {E : XK} {x : Str} {p pos : Pos} {e : Expr} {es : List Expr} {t : TA}
theorem pe_callH (hr : Room k X.A) (hN : X.N[i]? = some x) (hv : Vis X.env.scope x) (hx : Passes CX X E) (ha : PA X (e :: es) t)
    (hdb : (x == ("__debug__" : Str)) = false := by decide) (hcd : (x == ("__classdict__" : Str)) = false := by decide)
    (he : starEach (e :: es) X.env = (false, eval e X.env) :: starEach es X.env := by rfl) (hpl : (backTo pos (starEach es X.env)).any (·.1) = false := by rfl) : PE X (.Call (.Name x p) (e :: es) [] pos) (tCallH X.prog X.w X.K X.mg X.base CX k i E t) := by
  refine ⟨fun pins s σ H Q I h => ?_⟩
  obtain ⟨f, sp, hs, ⟨fd, ps, F, hk, hb⟩, ht⟩ := h
  refine (pe_callL (i := i) (f := f) (sp := sp) (dvs := []) (E := E) F hr hN hv hk hb .nil hx ha hdb hcd he hpl).run pins s σ H Q I ⟨hs, ?_⟩
  have e0 : (fun (vs : List V) (H1 : Hp) => sp (vs ++ []) H1 Q E) = fun vs H1 => sp vs H1 Q E := by
    funext vs H1
    rw [List.append_nil]
  show t σ H (fun vs H1 => sp (vs ++ []) H1 Q E)
  rw [e0]
  exact ht
end
section
variable {X : Cx} {CX : CXT} {k : Nat} {E : XK} {x : Str} {p pos : Pos} {C : Addr} {ps : List Str} {sp : Sp}
theorem pe_mkO0 (h : HasI X.prog X.w X.K X.mg X.base CX k C ps sp) (hr : Room (k + 1) X.A) (hm : X.mg x = some (.ref C)) (hx : Passes CX X E) (hg : Gl X x := by rfl) (hdb : (x == ("__debug__" : Str)) = false := by decide) : PE X (.Call (.Name x p) [] [] pos) (tMake C sp [] E tNil) := by
  obtain ⟨f, fd, F, M, b, _⟩ := h
  exact pe_make0 M F hr hg hm b .nil hx hdb
end
/-! ### the desk -/
theorem rk_ne : ¬ (("rule" : Str) = "kept") := by decide +kernel
theorem kr_ne : ¬ (("kept" : Str) = "rule") := by decide +kernel
def dkf (ru kp : Addr) : List (Str × V) := putF "kept" (.ref kp) (putF "rule" (.ref ru) [])
theorem dkf_rule (ru kp : Addr) : (dkf ru kp).lookup ("rule" : Str) = some (.ref ru) := by
  unfold dkf
  rw [lookup_putF, if_neg rk_ne, lookup_putF, if_pos rfl]
theorem dkf_kept (ru kp : Addr) : (dkf ru kp).lookup ("kept" : Str) = some (.ref kp) := by
  unfold dkf
  rw [lookup_putF, if_pos rfl]
theorem dkf_no (ru kp : Addr) {x : Str} (h1 : ¬ x = "kept") (h2 : ¬ x = "rule") : (dkf ru kp).lookup x = none := by
  unfold dkf
  rw [lookup_putF, if_neg h1, lookup_putF, if_neg h2]
  all_goals rfl
theorem dkf_set1 (ru kp r2 : Addr) : putF "rule" (.ref r2) (dkf ru kp) = dkf r2 kp := rfl
theorem dkf_set2 (ru kp k2 : Addr) : putF "kept" (.ref k2) (dkf ru kp) = dkf ru k2 := rfl
structure DTx (K : PySem.W.Frag) (mg : Str → Option Value) (C : Addr) : Prop where
  cl : Cls K C
  nr : NoAttr K C "rule"
  nk : NoAttr K C "kept"
  g : mg "Desk" = some (.ref C)
/-- at p stands a desk of this rule and this kept row -/
def DeskAt (C CK : Addr) (H : Hp) (p u k l : Addr) (t pl m : Int) (xs : List Int) : Prop := (∃ dx, H p = some (.ins C dx (dkf u k))) ∧ H u = some (.tup [.int t, .int pl, .int m]) ∧ KeptAt CK H k l m xs
/-! ### lines -/
/-- a written tuple of the module -/
def KTup (K : PySem.W.Frag) (a : Addr) (xs : List V) : Prop := ∀ H, SqT K H a xs
theorem tabbed_grow {P1 P2 : Addr} {H H' : Hp} (p12 : P1 ≠ P2) (h1 : GxR.TabG H P1) (t : GxR.Tabbed P2 H H') : Grow P1 P2 H H' := by
  obtain ⟨ps, e1, e2⟩ := h1
  exact ⟨⟨ps, by rw [t.2 P1 p12]; exact e1, e2⟩, t.1, fun b o _ n2 e => by rw [t.2 b n2]; exact e⟩
/-- a number's word -/
def pRdNum (P1 P2 : Addr) : V → Hp → VK → XK → Prop := fun a H Q _ => ∃ n : Nat, a = .str (SX.S (TL.numL n)) ∧ (TL.numL n).length ≤ 19 ∧ GxR.TabG H P1 ∧ GxR.TabG H P2 ∧ ∀ H', Grow P1 P2 H H' → Q (.int (n : Int)) H'
section
variable (P : Program) (w : World) (K : PySem.W.Frag) (mg : Str → Option Value) (base : Heap)
def pRdWord (dR : Addr) : V → V → Hp → VK → XK → Prop := fun a b H Q E => ∃ (z : Str) (f : Addr) (sp : Sp), a = .str z ∧ Ent K dR z (.ref f) ∧ HeldX P w K mg base (L2.CX P w) 4 f sp ∧ sp [b] H Q E
/-- a word of this kind tells this number -/
def ReadsTo (dR P1 P2 : Addr) (z w' : Str) (n : Int) : Prop := ∃ (f : Addr) (sp : Sp), Ent K dR z (.ref f) ∧ HeldX P w K mg base (L2.CX P w) 4 f sp ∧ ∀ H Q E, GxR.TabG H P1 → GxR.TabG H P2 → (∀ H', Grow P1 P2 H H' → Q (.int n) H') → sp [.str w'] H Q E
def pRdLine (dL dR P1 P2 : Addr) : V → Hp → VK → XK → Prop := fun a H Q _ => ∃ (l tp : Addr) (w0 : Str) (ws zs : List Str) (ns : List Int), a = .ref l ∧ H l = some (.lst ((w0 :: ws).map V.str)) ∧ Ent K dL w0 (.ref tp) ∧ KTup K tp (zs.map V.str) ∧ zs.length = ws.length ∧ ns.length = ws.length ∧ ws.length ≤ 9 ∧
  (∀ (i : Nat) z w' n, zs[i]? = some z → ws[i]? = some w' → ns[i]? = some n → ReadsTo P w K mg base dR P1 P2 z w' n) ∧ GxR.TabG H P1 ∧ GxR.TabG H P2 ∧ ∀ H' q, Grow P1 P2 H H' → H q = none → H' q = some (.lst (ns.map V.int)) → Q (.ref q) H'
/-- one text, told of a desk as it is -/
def Says (P1 P2 : Addr) (H : Hp) (Q : VK) (x : Str) : Prop := ∀ H' q, Grow P1 P2 H H' → H q = none → H' q = some (.lst [.str x]) → Q (.ref q) H'
def pTellNext (C CK P1 P2 : Addr) : V → V → Hp → VK → XK → Prop := fun a b H Q _ => ∃ (p u k l nl : Addr) (t pl m n : Int) (xs : List Int), a = .ref p ∧ b = .ref nl ∧ DeskAt C CK H p u k l t pl m xs ∧ Rule t pl m ∧ H nl = some (.lst [.int n]) ∧ 0 ≤ n ∧ n < m ∧ GxR.TabG H P1 ∧ GxR.TabG H P2 ∧ Says P1 P2 H Q (SX.S (TL.numL (stp t pl m n).toNat))
def pDinit (C CK : Addr) : V → Hp → VK → XK → Prop := fun a H Q _ => ∃ (H0 : Hp) (p dx : Addr), a = .ref p ∧ Same H0 H ∧ H0 p = none ∧ H p = some (.ins C dx []) ∧ ∀ H' u k l, Same H0 H' → DeskAt C CK H' p u k l 0 0 1 [] → H0 l = none → Q .non H'
/-- but for the desk itself and the tables all that stood stands -/
def Desked (P1 P2 p : Addr) (H H' : Hp) : Prop := GxR.TabG H' P1 ∧ GxR.TabG H' P2 ∧ ∀ b o, b ≠ P1 → b ≠ P2 → b ≠ p → H b = some o → H' b = some o
def pTake2 (C CK P1 P2 : Addr) : V → V → Hp → VK → XK → Prop := fun a b H Q _ => ∃ (p dx u k : Addr) (r : List Nat) (t pl m : Int), a = .ref p ∧ b = .str (SX.S r) ∧ r.length ≤ 640 ∧ H p = some (.ins C dx (dkf u k)) ∧ readR r = some (t, pl, m) ∧ GxR.TabG H P1 ∧ GxR.TabG H P2 ∧ ∀ H' u' k' l', Desked P1 P2 p H H' → DeskAt C CK H' p u' k' l' t pl m [] → H l' = none → Q .non H'
def headL : List Nat := [114, 117, 108, 101, 32]
def pAsk (C CK P1 P2 dL dR dA : Addr) : V → V → Hp → VK → XK → Prop := fun a b H Q E => ∃ (p dx u k : Addr) (line : List Nat), a = .ref p ∧ b = .str (SX.S line) ∧ line.length ≤ 600 ∧ H p = some (.ins C dx (dkf u k)) ∧ GxR.TabG H P1 ∧ GxR.TabG H P2 ∧
  ((∃ r t pl m, line = headL ++ r ∧ readR r = some (t, pl, m) ∧ ∀ H' u' k' l' q, Desked P1 P2 p H H' → DeskAt C CK H' p u' k' l' t pl m [] → H l' = none → l' ≠ q → H q = none → H' q = some (.lst []) → Q (.ref q) H') ∨
   (∃ (w0 : List Nat) (ws : List (List Nat)) (zs : List Str) (ns : List Int) (tp f : Addr) (sp : Sp), Txt.startswith (SX.S line) (Str.ofString "rule ") = false ∧ wds line = w0 :: ws ∧ Ent K dL (SX.S w0) (.ref tp) ∧ KTup K tp (zs.map V.str) ∧ zs.length = ws.length ∧ ns.length = ws.length ∧ ws.length ≤ 9 ∧
     (∀ (i : Nat) z w' n, zs[i]? = some z → ws[i]? = some w' → ns[i]? = some n → ReadsTo P w K mg base dR P1 P2 z (SX.S w') n) ∧ Ent K dA (SX.S w0) (.ref f) ∧ HeldX P w K mg base (L2.CX P w) 11 f sp ∧ ∀ H' nl, Grow P1 P2 H H' → H' nl = some (.lst (ns.map V.int)) → sp [.ref p, .ref nl] H' Q E))
end
theorem head_S : Str.ofString "rule " = SX.S headL := by decide
theorem starts_head (r : List Nat) : Txt.startswith (SX.S (headL ++ r)) (Str.ofString "rule ") = true := by
  rw [head_S, ← SX.S_cat]
  exact PySem.W.KT.starts_app _ _
theorem cut_head (r : List Nat) : cutS (SX.S (headL ++ r)) (some 5) none = SX.S r := by
  have hl : (SX.S (headL ++ r)).length = r.length + 5 := by
    show (headL ++ r).toArray.size = _
    rw [List.size_toArray, List.length_append]
    show 5 + r.length = _
    omega
  unfold cutS
  rw [hl]
  have e1 : HT.sIx (r.length + 5) 0 (some (5 : Int)) = 5 := by
    show (if (5 : Int) < 0 then ((5 : Int) + ((r.length + 5 : Nat) : Int)).toNat else min (5 : Int).toNat (r.length + 5)) = 5
    rw [if_neg (by decide)]
    show min 5 (r.length + 5) = 5
    omega
  have e2 : HT.sIx (r.length + 5) (r.length + 5) none = r.length + 5 := rfl
  rw [e1, e2]
  show (⟨(((headL ++ r).toArray.toList.drop 5).take (r.length + 5 - 5)).toArray⟩ : Str) = ⟨r.toArray⟩
  rw [List.toList_toArray, show (headL ++ r).drop 5 = r from rfl, List.take_of_length_le (by omega)]
theorem DeskAt.same {C CK : Addr} {H H' : Hp} {p u k l : Addr} {t pl m : Int} {xs : List Int} (h : DeskAt C CK H p u k l t pl m xs) (s : Same H H') : DeskAt C CK H' p u k l t pl m xs := by
  obtain ⟨⟨dx, e⟩, e2, e3⟩ := h
  exact ⟨⟨dx, s _ _ e⟩, s _ _ e2, e3.same s⟩
theorem Desked.same {P1 P2 p : Addr} {H H1 H2 : Hp} (h : Desked P1 P2 p H H1) (s : Same H1 H2) : Desked P1 P2 p H H2 := ⟨tabG_same h.1 s, tabG_same h.2.1 s, fun b o n1 n2 n3 e => s _ _ (h.2.2 b o n1 n2 n3 e)⟩
theorem Desked.free {P1 P2 p q : Addr} {H H1 : Hp} (h : Desked P1 P2 p H H1) (hp : H1 p ≠ none) (e : H1 q = none) : H q = none := by
  cases e2 : H q with
  | none => rfl
  | some o =>
    obtain ⟨⟨ps, e3, _⟩, ⟨pt, e4, _⟩, k⟩ := h
    have := k q o (fun z => by rw [z, e3] at e; cases e) (fun z => by rw [z, e4] at e; cases e) (fun z => hp (by rw [← z]; exact e)) e2
    rw [e] at this
    cases this
theorem DeskAt.grow {C CK P1 P2 : Addr} {H H' : Hp} {p u k l : Addr} {t pl m : Int} {xs : List Int} (h : DeskAt C CK H p u k l t pl m xs) (h1 : GxR.TabG H P1) (h2 : GxR.TabG H P2) (g : Grow P1 P2 H H') : DeskAt C CK H' p u k l t pl m xs := by
  obtain ⟨⟨dx, e⟩, e2, ⟨dk, e3⟩, e4⟩ := h
  exact ⟨⟨dx, g.get h1 h2 e (fun ps z => by cases z)⟩, g.get h1 h2 e2 (fun ps z => by cases z), ⟨dk, g.get h1 h2 e3 (fun ps z => by cases z)⟩, g.get h1 h2 e4 (fun ps z => by cases z)⟩
end Tw

/-! Lines of the desk, as texts. -/
namespace Tw
open PySem PySem.Spec PyProof.Rows L2
def nextW : List Nat := [110, 101, 120, 116]
theorem rule_line {b : Int} (h : 0 ≤ b) : Str.empty ++ Str.ofString "rule 1 1 " ++ Str.ofString (toString b) = SX.S (headL ++ shw 1 1 b) := by
  have e1 : Str.empty = SX.S [] := by decide
  have e2 : Str.ofString "rule 1 1 " = SX.S (headL ++ [49, 32, 49, 32]) := by decide
  rw [str_num h, e1, e2, SX.S_cat, SX.S_cat]
  rfl
theorem next_line {b : Int} (h : 0 ≤ b) : Str.empty ++ Str.ofString "next " ++ Str.ofString (toString b) = SX.S (nextW ++ 32 :: TL.numL b.toNat) := by
  have e1 : Str.empty = SX.S [] := by decide
  have e2 : Str.ofString "next " = SX.S (nextW ++ [32]) := by decide
  rw [str_num h, e1, e2, SX.S_cat, SX.S_cat]
  rfl
theorem next_no (r : List Nat) : Txt.startswith (SX.S (nextW ++ r)) (Str.ofString "rule ") = false := by
  unfold Txt.startswith
  rw [Bool.and_eq_false_iff]
  right
  rw [StrLaws.subAt_eq]
  show (((nextW ++ r).toArray.toList.drop 0).take _ == _) = false
  rw [List.toList_toArray]
  rfl
theorem wds_next (n : Nat) : wds (nextW ++ 32 :: TL.numL n) = [nextW, TL.numL n] := by
  have e : nextW ++ 32 :: TL.numL n = TL.joinL [32] [nextW, TL.numL n] := by
    simp [TL.joinL]
  unfold wds
  rw [e]
  refine SX.spl_join (by simp) fun q hq => ?_
  simp only [List.mem_cons, List.not_mem_nil, or_false] at hq
  rcases hq with rfl | rfl
  · decide
  · exact TL.numL_free (.inl (by decide))
theorem strOk_S {l : List Nat} (h : ∀ c ∈ l, c < 1114112) : PyData.strOk (SX.S l) = true := by
  show l.toArray.all (· < 0x110000) = true
  rw [List.all_toArray, List.all_eq_true]
  exact fun c hc => decide_eq_true (h c hc)
theorem numL_lt (n : Nat) : ∀ c ∈ TL.numL n, c < 1114112 := fun c hc => by
  have := TL.numL_digits n c hc
  omega
theorem shp_one {x : Str} (h : PyData.strOk x = true) : SeqAt.shaped (.list [.str x]) = true := by
  show ((PyData.strOk x && true) && decide (max 0 0 + 1 ≤ 64)) = true
  rw [h]
  rfl
end Tw

/-! The head by one run in the kernel, with written tables of the module. -/
namespace Tw
open PySem PySem.Spec PyProof.Rows L2
/-- what is reached in so many steps: each once, by a number whose bits tell who was seen -/
def addB {γ : Type} : List Addr → Nat → List Addr → (Nat → List Addr → γ) → γ
  | [], s, new, k => k s new
  | a :: r, s, new, k => match Nat.beq (Nat.land (Nat.shiftRight s a) 1) 1 with
    | true => addB r s new k
    | false => HandSHeadRun.frNat (Nat.lor s (Nat.shiftLeft 1 a)) fun s' => addB r s' (a :: new) k
def bfsB (g : Addr → Option Obj) : Nat → Nat → List Addr → List Addr → List Addr
  | 0, _, fr, acc => fr ++ acc
  | n + 1, s, fr, acc => addB (fr.flatMap fun a => match g a with
    | some o => He.refsD o
    | none => []) s [] fun s' new => bfsB g n s' new (fr ++ acc)
def asB (g : Addr → Option Obj) (n : Nat) : List Addr := addB [cStatics, mainGlobals] 0 [] fun s fr => bfsB g n s fr []
structure SaysY (fa : List He.Fa) (fn : List He.DefD) (ts : List He.Tab) (tf : List He.Defn) (ex : Fr → Bool) (w : World) (h : Heap) (K : Fr) : Prop where
  t : He.SaysT fa fn ts w K
  more : ex K = true
  hd : ∀ p ∈ tf, PySem.W.codeHdIn K (He.cT K p).1 (He.cT K p).2 = true
  out : ∀ p ∈ tf, K.lookup (He.cT K p).2 = none
  empty : ∀ p ∈ tf, h.get? (He.cT K p).2 = some { cls := .none, data := .fields #[] }
theorem SaysY.d {fa : List He.Fa} {fn : List He.DefD} {ts : List He.Tab} {tf : List He.Defn} {ex : Fr → Bool} {w : World} {h : Heap} {K : Fr} (c : SaysY fa fn ts tf ex w h K) : He.SaysD fa fn K := c.t.d
abbrev AlY : Type := He.AlT × Bool
def obsY (n : Nat) (fa : List He.Fa) (fn : List He.DefD) (ts : List He.Tab) (tf : List He.Defn) (ex : Fr → Bool) (g : Addr → Option Obj) : AlY := (He.obsT fa fn ts (He.frT g (asB g n)), ex (He.frT g (asB g n)) && He.tabsB g tf (He.frT g (asB g n)))
def valY (fn : List He.DefD) (ts : List He.Tab) (w : World) : AlY := (He.valT fn ts w, true)
theorem saysY_of {n : Nat} {fa : List He.Fa} {fn : List He.DefD} {ts : List He.Tab} {tf : List He.Defn} {ex : Fr → Bool} {w : World} {h : Heap} (e : obsY n fa fn ts tf ex h.get? = valY fn ts w) : SaysY fa fn ts tf ex w h (He.frT h.get? (asB h.get? n)) := by
  have e1 : He.obsT fa fn ts (He.frT h.get? (asB h.get? n)) = He.valT fn ts w := congrArg (fun z : AlY => z.1) e
  have e2 : (ex (He.frT h.get? (asB h.get? n)) && He.tabsB h.get? tf (He.frT h.get? (asB h.get? n))) = true := congrArg (fun z : AlY => z.2) e
  obtain ⟨h1, h2⟩ := He.ba e2
  have key : ∀ p ∈ tf, PySem.W.codeHdIn (He.frT h.get? (asB h.get? n)) (He.cT (He.frT h.get? (asB h.get? n)) p).1 (He.cT (He.frT h.get? (asB h.get? n)) p).2 = true ∧ ∃ o, h.get? (He.cT (He.frT h.get? (asB h.get? n)) p).2 = some o ∧ He.emptyTab o = true := fun p hp => by
    obtain ⟨h3, h4⟩ := He.ba (List.all_eq_true.mp h2 p hp)
    refine ⟨h3, ?_⟩
    cases q : h.get? (He.cT (He.frT h.get? (asB h.get? n)) p).2 with
    | none =>
      rw [q] at h4
      cases h4
    | some o =>
      rw [q] at h4
      exact ⟨o, rfl, h4⟩
  exact ⟨e1, h1, fun p hp => (key p hp).1, fun p hp => by
    obtain ⟨_, o, q, z⟩ := key p hp
    exact He.frT_none q z, fun p hp => by
    obtain ⟨_, o, q, z⟩ := key p hp
    rw [q, He.emptyTab_eq z]⟩
def hookY (n : Nat) (fa : List He.Fa) (fn : List He.DefD) (ts : List He.Tab) (tf : List He.Defn) (ex : Fr → Bool) : PySem.W.Hook where
  α := AlY
  obs := fun s => obsY n fa fn ts tf ex s.heap.get?
  val := fun w => valY fn ts w
  says := fun w h => ∃ K : Fr, K.In h ∧ SaysY fa fn ts tf ex w h K
  of := fun _ _ e => ⟨_, He.frT_in, saysY_of e⟩
  keeps := fun _ _ _ ⟨K, hK, c⟩ k => ⟨K, PySem.W.Frag.In.keeps hK k, ⟨c.t, c.more, c.hd, c.out, fun p hp => k _ _ (c.empty p hp)⟩⟩
theorem obsY_eq {n : Nat} {fa : List He.Fa} {fn : List He.DefD} {ts : List He.Tab} {tf : List He.Defn} {ex : Fr → Bool} {g : Addr → Option Obj} {s : Shared} (h : ∀ a, g a = s.heap.get? a) : obsY n fa fn ts tf ex g = (hookY n fa fn ts tf ex).obs s := by
  have e : g = s.heap.get? := funext h
  rw [e] <;> rfl
/-! ### what stands in a table -/
theorem ent_of {K : Fr} {a : Addr} {kvs : List (Str × He.Dv)} (h : He.valsB K a kvs = true) {q : Str × He.Dv} (hq : q ∈ kvs) : Ent K a q.1 (q.2.v K) := He.valsB_ok h hq
/-- the address at a key -/
def tvA (K : Fr) (d : Addr) (z : Str) : Addr := match PySem.W.nsIn K d z with
  | some (some (.ref a)) => a
  | _ => 0
def strsB : List Str → List Value → Bool
  | [], [] => true
  | x :: xs, .str y _ :: ys => decide (x = y) && strsB xs ys
  | _, _ => false
theorem strsB_ok : ∀ {xs : List Str} {ys : List Value}, strsB xs ys = true → Vals (xs.map V.str) ys
  | [], [], _ => .nil
  | [], _ :: _, h => by cases h
  | _ :: _, [], h => by cases h
  | x :: xs, y :: ys, h => by
    cases y with
    | str z t =>
      obtain ⟨h1, h2⟩ := He.ba h
      have e := of_decide_eq_true h1
      subst e
      exact .cons ⟨t, rfl⟩ (strsB_ok h2)
    | _ => cases h
def tupSB (K : Fr) (a : Addr) (xs : List Str) : Bool := match K.lookup a with
  | some ⟨.type c, _, .seq its _, _⟩ => decide (c = "tuple") && (decide (its.size ≤ 1000) && strsB xs its.toList)
  | _ => false
theorem tupSB_ok {K : Fr} {a : Addr} {xs : List Str} (h : tupSB K a xs = true) : KTup K a (xs.map V.str) := by
  unfold tupSB at h
  cases q : K.lookup a with
  | none =>
    rw [q] at h
    cases h
  | some o =>
    obtain ⟨oc, od, dt, osl⟩ := o
    rw [q] at h
    cases oc with
    | type c =>
      cases dt with
      | seq its n =>
        obtain ⟨h1, h2⟩ := He.ba h
        obtain ⟨h3, h4⟩ := He.ba h2
        exact fun H => .inr ⟨_, its, n, q, congrArg Value.type (of_decide_eq_true h1), rfl, Nat.le_trans (of_decide_eq_true h3) (by decide), strsB_ok h4⟩
      | _ => cases h
    | _ => cases h
end Tw

/-! Readers of words, and what the desk's actions tell. -/
namespace Tw
open PySem PySem.Spec PyProof.Rows L2
/-- steps as text, - ahead where below 0 -/
def stL (s : Int) : List Nat := if s < 0 then 45 :: TL.numL (-s).toNat else TL.numL s.toNat
theorem numL_cons (n : Nat) : ∃ c r, TL.numL n = c :: r ∧ c ≠ 45 := by
  have h0 := TL.numL_ne n
  cases e : TL.numL n with
  | nil => exact absurd e h0
  | cons c r =>
    have := TL.numL_digits n c (by rw [e]; exact List.mem_cons_self ..)
    exact ⟨c, r, rfl, by omega⟩
theorem minus_S : Str.ofString "-" = SX.S [45] := by decide
theorem num_no_minus (n : Nat) : Txt.startswith (SX.S (TL.numL n)) (Str.ofString "-") = false := by
  obtain ⟨c, r, e, h⟩ := numL_cons n
  rw [e]
  unfold Txt.startswith
  rw [Bool.and_eq_false_iff]
  right
  rw [StrLaws.subAt_eq]
  show (((c :: r).toArray.toList.drop 0).take _ == _) = false
  rw [List.toList_toArray]
  show ((c :: r).take 1 == [45]) = false
  show ([c] == [45]) = false
  simp [h]
theorem minus_yes (r : List Nat) : Txt.startswith (SX.S (45 :: r)) (Str.ofString "-") = true := by
  rw [minus_S, show (45 :: r) = [45] ++ r from rfl, ← SX.S_cat]
  exact PySem.W.KT.starts_app _ _
theorem cut_one (c : Nat) (r : List Nat) : cutS (SX.S (c :: r)) (some 1) none = SX.S r := by
  have hl : (SX.S (c :: r)).length = r.length + 1 := by
    show (c :: r).toArray.size = _
    rw [List.size_toArray, List.length_cons]
  unfold cutS
  rw [hl]
  have e1 : HT.sIx (r.length + 1) 0 (some (1 : Int)) = 1 := by
    show (if (1 : Int) < 0 then ((1 : Int) + ((r.length + 1 : Nat) : Int)).toNat else min (1 : Int).toNat (r.length + 1)) = 1
    rw [if_neg (by decide)]
    show min 1 (r.length + 1) = 1
    omega
  have e2 : HT.sIx (r.length + 1) (r.length + 1) none = r.length + 1 := rfl
  rw [e1, e2]
  show (⟨(((c :: r).toArray.toList.drop 1).take (r.length + 1 - 1)).toArray⟩ : Str) = ⟨r.toArray⟩
  rw [List.toList_toArray, show (c :: r).drop 1 = r from rfl, List.take_of_length_le (by omega)]
/-- a word of a number to 60 -/
def pRdMany (P1 P2 : Addr) : V → Hp → VK → XK → Prop := fun a H Q _ => ∃ n : Nat, a = .str (SX.S (TL.numL n)) ∧ 1 ≤ n ∧ n ≤ 60 ∧ GxR.TabG H P1 ∧ GxR.TabG H P2 ∧ ∀ H', Grow P1 P2 H H' → Q (.int (n : Int)) H'
/-- a word of steps -/
def pRdSteps (P1 P2 : Addr) : V → Hp → VK → XK → Prop := fun a H Q _ => ∃ n : Int, a = .str (SX.S (stL n)) ∧ (TL.numL n.natAbs).length ≤ 19 ∧ GxR.TabG H P1 ∧ GxR.TabG H P2 ∧ ∀ H', Grow P1 P2 H H' → Q (.int n) H'
/-- numbers as a text, a blank between two -/
def rowL (xs : List Int) : List Nat := TL.joinL [32] (xs.map fun x => TL.numL x.toNat)
def totD (ws : List (List Nat)) : Nat := (ws.map fun w => w.length + 1).sum
theorem joinD_tot : ∀ ws : List (List Nat), (TL.joinL [32] ws).length ≤ totD ws
  | [] => Nat.le_refl _
  | [w] => by
    show w.length ≤ (w.length + 1) + 0
    omega
  | w :: v :: r => by
    have ih := joinD_tot (v :: r)
    have e : TL.joinL [32] (w :: v :: r) = w ++ ([32] ++ TL.joinL [32] (v :: r)) := by
      show TL.joinL [32] (w :: v :: r) = _
      simp [TL.joinL]
    rw [e, List.length_append, List.length_append]
    show w.length + (1 + _) ≤ (w.length + 1) + totD (v :: r)
    omega
def pTellRule (C CK P1 P2 : Addr) : V → V → Hp → VK → XK → Prop := fun a _ H Q _ => ∃ (p u k l : Addr) (t pl m : Int) (xs : List Int), a = .ref p ∧ DeskAt C CK H p u k l t pl m xs ∧ Rule t pl m ∧ GxR.TabG H P1 ∧ GxR.TabG H P2 ∧ Says P1 P2 H Q (SX.S (shw t pl m))
def pTellRow (C CK P1 P2 : Addr) : V → V → Hp → VK → XK → Prop := fun a b H Q _ => ∃ (p u k l nl : Addr) (t pl m s n : Int) (xs : List Int), a = .ref p ∧ b = .ref nl ∧ DeskAt C CK H p u k l t pl m xs ∧ Rule t pl m ∧ H nl = some (.lst [.int s, .int n]) ∧ 0 ≤ s ∧ s < m ∧ 1 ≤ n ∧ n ≤ 60 ∧ GxR.TabG H P1 ∧ GxR.TabG H P2 ∧ Says P1 P2 H Q (SX.S (rowL (orb (stp t pl m) n.toNat s)))
def pTellJump (C CK P1 P2 : Addr) : V → V → Hp → VK → XK → Prop := fun a b H Q _ => ∃ (p u k l nl : Addr) (t pl m s n y : Int) (xs : List Int), a = .ref p ∧ b = .ref nl ∧ DeskAt C CK H p u k l t pl m xs ∧ Rule t pl m ∧ H nl = some (.lst [.int s, .int n]) ∧ 0 ≤ s ∧ s < m ∧ GxR.TabG H P1 ∧ GxR.TabG H P2 ∧ 0 ≤ y ∧ y < m ∧ ((0 ≤ n ∧ y = ahd t pl m n.toNat s) ∨ (n < 0 ∧ Int.gcd t m = 1 ∧ ∀ z, Back t pl m (-n).toNat s z → z = y)) ∧ Says P1 P2 H Q (SX.S (TL.numL y.toNat))
theorem totD_le {xs : List Int} {c : Nat} (h : ∀ x ∈ xs, (TL.numL x.toNat).length ≤ c) : totD (xs.map fun x => TL.numL x.toNat) ≤ xs.length * (c + 1) := by
  induction xs with
  | nil => simp [totD]
  | cons x r ih =>
    have h1 := h x (List.mem_cons_self ..)
    have h2 := ih fun y hy => h y (List.mem_cons_of_mem _ hy)
    simp only [List.map_cons, totD, List.length_cons, List.sum_cons] at h2 ⊢
    have e : (r.length + 1) * (c + 1) = r.length * (c + 1) + (c + 1) := by rw [Nat.add_mul, Nat.one_mul]
    omega
theorem rowL_len {xs : List Int} {c : Nat} (h : ∀ x ∈ xs, (TL.numL x.toNat).length ≤ c) : (rowL xs).length ≤ xs.length * (c + 1) := Nat.le_trans (joinD_tot _) (totD_le h)
theorem sumD : ∀ ws : List (List Nat), ((ws.map SX.S).map fun x => x.length).sum + (ws.map SX.S).length * (Str.ofString " ").length = totD ws
  | [] => rfl
  | w :: r => by
    have ih := sumD r
    have e1 : (Str.ofString " ").length = 1 := by decide
    rw [e1] at ih ⊢
    simp only [List.map_cons, List.sum_cons, List.length_cons, totD] at ih ⊢
    have e2 : (SX.S w).length = w.length := by
      show w.toArray.size = _
      rw [List.size_toArray]
    rw [e2]
    omega
theorem orb_num {t p m s : Int} (m0 : 0 < m) (hm : m ≤ 1000000000000) (h : 0 ≤ s ∧ s < m) {n : Nat} : ∀ x ∈ orb (stp t p m) n s, 0 ≤ x ∧ x < m ∧ (TL.numL x.toNat).length ≤ 13 := by
  intro x hx
  obtain ⟨i, hi, rfl⟩ := List.mem_map.mp hx
  have r := itr_rng (t := t) (p := p) m0 h i
  exact ⟨r.1, r.2, TL.numL_len (by decide) (by
    have : (10 : Nat) ^ 13 = 10000000000000 := by decide
    omega)⟩
end Tw

/-! Jumps by doubling, as the desk's laws reckon them. -/
namespace Tw
open PySem PySem.Spec PyProof.Rows L2
theorem itr_sh (f : Int → Int) : ∀ (n : Nat) (x : Int), itr f (n + 1) x = itr f n (f x)
  | 0, x => rfl
  | n + 1, x => by
    show f (itr f (n + 1) x) = f (itr f n (f x))
    rw [itr_sh f n x]
theorem itr_dbl {f g : Int → Int} (h : ∀ x, g x = f (f x)) : ∀ (j : Nat) (x : Int), itr g j x = itr f (2 * j) x
  | 0, x => rfl
  | j + 1, x => by
    show g (itr g j x) = itr f (2 * j + 1 + 1) x
    rw [itr_dbl h j x, h]
    rfl
theorem stp_twice (t p m x : Int) : stp (t * t % m) ((t * p + p) % m) m x = stp t p m (stp t p m x) := by
  unfold stp
  rw [Int.add_emod, Int.mul_emod, Int.emod_emod, ← Int.mul_emod, Int.emod_emod, ← Int.add_emod]
  rw [Int.add_emod (t * ((t * x + p) % m)) p m, Int.mul_emod t ((t * x + p) % m) m, Int.emod_emod, ← Int.mul_emod, ← Int.add_emod]
  congr 1
  grind
theorem itr_ahdD {t p m : Int} {x : Int} (x0 : 0 ≤ x) (x1 : x < m) : ∀ n, itr (stp t p m) n x = ahd t p m n x
  | 0 => by
    unfold ahd
    show x = (t ^ 0 * x + p * 0) % m
    rw [Int.pow_zero, Int.one_mul, Int.mul_zero, Int.add_zero, Int.emod_eq_of_lt x0 x1]
  | n + 1 => by
    show stp t p m (itr (stp t p m) n x) = _
    rw [itr_ahdD x0 x1 n]
    unfold ahd stp
    show (t * ((t ^ n * x + p * geo t n) % m) + p) % m = (t ^ (n + 1) * x + p * (geo t n + t ^ n)) % m
    have e : geo t n + t ^ n = 1 + t * geo t n := by
      have := geo_add t 1 n
      have h1 : geo t 1 = 1 := by show (0 : Int) + t ^ 0 = 1; rw [Int.pow_zero]; rfl
      rw [h1, Int.pow_one, Nat.add_comm] at this
      exact this
    rw [e, Int.add_emod, Int.mul_emod, Int.emod_emod, ← Int.mul_emod, ← Int.add_emod, Int.pow_succ]
    congr 1
    grind
section
variable {P : Program} {w : World} {K : PySem.W.Frag} {mg : Str → Option Value} {base : Heap} {x : Str} {st : Stmt} {N : List Str} {k : Nat}
theorem Top.ok4X {a b c d : Str} {p : V → V → V → V → Hp → VK → XK → Prop} (D : Top K mg x st [a, b, c, d]) (S : FnScope N [a, b, c, d] (defScope st))
    (hbody : ∀ (f : Addr) (cdv : Value) (A : Around) (outer : List Env) (s : Shared) (H : Hp) (v1 v2 v3 v4 : V) (Q : VK) (E : XK), Room k (A.deeper (envOfC x (defScope st) s.heap.objs.size f cdv)) → p v1 v2 v3 v4 H Q E →
      ∃ t, PSs (cxOf (L2.CX P w) P w K mg base N x (defScope st) f cdv A outer s H E) (defBody st) t ∧ t { nx := fun _ H' => Q .non H', rt := Q } (start N [v1, v2, v3, v4]) H) : Has P w K mg base (L2.CX P w) (k + 1) x [a, b, c, d] (sp4 p) :=
  D.okX S (fun vs H Q E h => by obtain ⟨_, _, _, _, rfl, _⟩ := h; rfl) (fun f cdv A outer s H vs Q E hr h => by obtain ⟨v1, v2, v3, v4, rfl, h⟩ := h; exact hbody f cdv A outer s H v1 v2 v3 v4 Q E hr h)
end
/-- the rule of two steps -/
def pTwiceD (K : PySem.W.Frag) : V → V → Hp → VK → XK → Prop := fun a b H Q _ => ∃ (r : Addr) (t p m : Int), a = .ref r ∧ b = .ref r ∧ SqT K H r [.int t, .int p, .int m] ∧ Rule t p m ∧ ∀ H' u, Same H H' → H u = none → H' u = some (.tup [.int (t * t % m), .int ((t * p + p) % m), .int m]) → Q (.ref u) H'
/-- so many steps on -/
def pJumpD (K : PySem.W.Frag) : V → V → V → Hp → VK → XK → Prop := fun a b c H Q _ => ∃ (r : Addr) (t p m s n : Int), a = .ref r ∧ b = .int s ∧ c = .int n ∧ SqT K H r [.int t, .int p, .int m] ∧ Rule t p m ∧ 0 ≤ s ∧ s < m ∧ 0 ≤ n ∧ n < 1000000000000000000000 ∧ ∀ H', Same H H' → Q (.int (ahd t p m n.toNat s)) H'
/-- a start drawn of a rule -/
def pStartD (K : PySem.W.Frag) : V → V → Hp → VK → XK → Prop := fun a b H Q _ => ∃ (d : Addr) (n : Nat) (r : Addr) (t p m : Int), a = .ref d ∧ b = .ref r ∧ SqT K H r [.int t, .int p, .int m] ∧ Rule t p m ∧ Seed H d n ∧ n + 5 ≤ 100000000 ∧
  ∀ (H' : Hp) (v : Int), But d H H' → Seed H' d (n + 5) → 0 ≤ v → v < m → Q (.int v) H'
/-- steps drawn -/
def pStepsD : V → Hp → VK → XK → Prop := fun a H Q _ => ∃ (d : Addr) (n : Nat), a = .ref d ∧ Seed H d n ∧ n + 4 ≤ 100000000 ∧
  ∀ (H' : Hp) (v : Int), But d H H' → Seed H' d (n + 4) → 0 ≤ v → v < 10000000000000000000 → Q (.int v) H'
end Tw

/-! What a desk tells to a line, whatever stands beside it. -/
namespace Tw
open PySem PySem.Spec PyProof.Rows L2
theorem lt_app {a b : List Nat} (ha : ∀ c ∈ a, c < 1114112) (hb : ∀ c ∈ b, c < 1114112) : ∀ c ∈ a ++ b, c < 1114112 := fun c hc => by
  rcases List.mem_append.mp hc with h | h
  · exact ha c h
  · exact hb c h
theorem lt_32 : ∀ c ∈ ([32] : List Nat), c < 1114112 := fun c hc => by
  rw [List.mem_singleton.mp hc]
  decide
theorem shw_lt (t p m : Int) : ∀ c ∈ shw t p m, c < 1114112 := by
  unfold shw
  exact lt_app (lt_app (lt_app (lt_app (numL_lt _) lt_32) (numL_lt _)) lt_32) (numL_lt _)
theorem joinD_lt : ∀ ws : List (List Nat), (∀ w ∈ ws, ∀ c ∈ w, c < 1114112) → ∀ c ∈ TL.joinL [32] ws, c < 1114112
  | [], _ => fun c hc => by cases hc
  | [w], h => h w (List.mem_cons_self ..)
  | w :: v :: r, h => by
    have ih := joinD_lt (v :: r) fun x hx => h x (List.mem_cons_of_mem _ hx)
    have e : TL.joinL [32] (w :: v :: r) = w ++ ([32] ++ TL.joinL [32] (v :: r)) := by
      show TL.joinL [32] (w :: v :: r) = _
      simp [TL.joinL]
    rw [e]
    exact lt_app (h w (List.mem_cons_self ..)) (lt_app lt_32 ih)
theorem rowL_lt (xs : List Int) : ∀ c ∈ rowL xs, c < 1114112 := joinD_lt _ fun w hw => by
  obtain ⟨x, _, rfl⟩ := List.mem_map.mp hw
  exact numL_lt _
section
variable {P : Program} {w : World} {K : PySem.W.Frag} {mg : Str → Option Value} {base : Heap} {C CK P1 P2 dL dR dA : Addr}
/-- a desk with this rule and row tells this text to this line -/
def AskOk (P : Program) (w : World) (K : PySem.W.Frag) (mg : Str → Option Value) (base : Heap) (C CK P1 P2 dL dR dA : Addr) (t pl m : Int) (xs : List Int) (line due : List Nat) : Prop := PyData.strOk (SX.S due) = true ∧ ∀ (H : Hp) (Q : VK) (E : XK) (p u k l : Addr), DeskAt C CK H p u k l t pl m xs → GxR.TabG H P1 → GxR.TabG H P2 →
  (∀ H' q, Grow P1 P2 H H' → H q = none → H' q = some (.lst [.str (SX.S due)]) → Q (.ref q) H') → pAsk P w K mg base C CK P1 P2 dL dR dA (.ref p) (.str (SX.S line)) H Q E
theorem Grow.freeG {H H' : Hp} {q : Addr} (g : Grow P1 P2 H H') (t1 : GxR.TabG H P1) (t2 : GxR.TabG H P2) (e : H' q = none) : H q = none := by
  cases e2 : H q with
  | none => rfl
  | some o =>
    obtain ⟨ps, e3, _⟩ := g.t1
    obtain ⟨pt, e4, _⟩ := g.t2
    have := g.keep q o (fun z => by rw [z, e3] at e; cases e) (fun z => by rw [z, e4] at e; cases e) e2
    rw [e] at this
    cases this
theorem ask_next {t pl m n : Int} {xs : List Int} {tL fR fT : Addr} (R : Rule t pl m) (n0 : 0 ≤ n) (n1 : n < m)
    (eL : Ent K dL (SX.S nextW) (.ref tL)) (eT : KTup K tL [.str "NUMBER"]) (eR : Ent K dR "NUMBER" (.ref fR)) (h_rn : HeldX P w K mg base (L2.CX P w) 4 fR (sp1 (pRdNum P1 P2))) (eA : Ent K dA (SX.S nextW) (.ref fT)) (h_tn : HeldX P w K mg base (L2.CX P w) 11 fT (sp2 (pTellNext C CK P1 P2))) :
    AskOk P w K mg base C CK P1 P2 dL dR dA t pl m xs (nextW ++ 32 :: TL.numL n.toNat) (TL.numL (stp t pl m n).toNat) := by
  refine ⟨strOk_S (numL_lt _), ?_⟩
  intro H Q E p u k l hd hT1 hT2 q
  have b2 := R.b2
  have kl : (TL.numL n.toNat).length ≤ 13 := TL.numL_len (by decide) (by
    have : (10 : Nat) ^ 13 = 10000000000000 := by decide
    omega)
  have hd' := hd
  obtain ⟨⟨dx, hp⟩, hu, hk⟩ := hd
  refine ⟨p, dx, u, k, _, rfl, rfl, by rw [List.length_append, List.length_cons]; show 4 + _ ≤ 600; omega, hp, hT1, hT2, .inr ⟨nextW, [TL.numL n.toNat], ["NUMBER"], [n], tL, fT, _, next_no _, wds_next _, eL, eT, rfl, rfl, by show 1 ≤ 9; decide, (fun i z w' v h1 h2 h3 => ?_), eA, h_tn, fun H1 nl g1 hnl => ?_⟩⟩
  · match i, h1, h2, h3 with
    | 0, h1, h2, h3 =>
      cases h1
      cases h2
      cases h3
      refine ⟨fR, _, eR, h_rn, fun H0 Q0 E0' t1 t2 go => ⟨_, rfl, n.toNat, rfl, by omega, t1, t2, fun H' g => ?_⟩⟩
      rw [Int.toNat_of_nonneg n0]
      exact go H' g
    | n + 1, h1, _, _ => cases h1
  · have D1 := hd'.grow hT1 hT2 g1
    exact ⟨_, _, rfl, p, u, k, l, nl, t, pl, m, n, xs, rfl, rfl, D1, R, hnl, n0, n1, g1.t1, g1.t2, fun H2 q2 g2 nq2 hq2 => q _ q2 (g1.trans g2) (Grow.freeG g1 hT1 hT2 nq2) hq2⟩
/-- a line of one word -/
theorem wds_one {l : List Nat} (h : 32 ∉ l) : wds l = [l] := by
  unfold wds
  have e : l = TL.joinL [32] [l] := rfl
  conv => lhs; rw [e]
  exact SX.spl_join (by simp) fun q hq => by
    simp only [List.mem_cons, List.not_mem_nil, or_false] at hq
    rw [hq]
    exact h
def showW : List Nat := [115, 104, 111, 119]
theorem ask_show {t pl m : Int} {xs : List Int} {tL fT : Addr} (R : Rule t pl m) (eL : Ent K dL (SX.S showW) (.ref tL)) (eT : KTup K tL []) (eA : Ent K dA (SX.S showW) (.ref fT)) (h_tn : HeldX P w K mg base (L2.CX P w) 11 fT (sp2 (pTellRule C CK P1 P2))) :
    AskOk P w K mg base C CK P1 P2 dL dR dA t pl m xs showW (shw t pl m) := by
  refine ⟨strOk_S (shw_lt _ _ _), ?_⟩
  intro H Q E p u k l hd hT1 hT2 q
  have hd' := hd
  obtain ⟨⟨dx, hp⟩, hu, hk⟩ := hd
  refine ⟨p, dx, u, k, _, rfl, rfl, by decide, hp, hT1, hT2, .inr ⟨showW, [], [], [], tL, fT, _, by decide, wds_one (by decide), eL, eT, rfl, rfl, by show 0 ≤ 9; decide, (fun i z w' v h1 h2 h3 => by cases h1), eA, h_tn, fun H1 nl g1 hnl => ?_⟩⟩
  have D1 := hd'.grow hT1 hT2 g1
  exact ⟨_, _, rfl, p, u, k, l, t, pl, m, xs, rfl, D1, R, g1.t1, g1.t2, fun H2 q2 g2 nq2 hq2 => q _ q2 (g1.trans g2) (Grow.freeG g1 hT1 hT2 nq2) hq2⟩
def rowW : List Nat := [114, 111, 119]
def jumpW : List Nat := [106, 117, 109, 112]
theorem wds_three {a b c : List Nat} (ha : 32 ∉ a) (hb : 32 ∉ b) (hc : 32 ∉ c) : wds (a ++ 32 :: (b ++ 32 :: c)) = [a, b, c] := by
  have e : a ++ 32 :: (b ++ 32 :: c) = TL.joinL [32] [a, b, c] := by
    simp [TL.joinL]
  unfold wds
  rw [e]
  refine SX.spl_join (by simp) fun q hq => ?_
  simp only [List.mem_cons, List.not_mem_nil, or_false] at hq
  rcases hq with rfl | rfl | rfl
  · exact ha
  · exact hb
  · exact hc
theorem numL_no32 (n : Nat) : 32 ∉ TL.numL n := TL.numL_free (.inl (by decide))
theorem stL_no32 (s : Int) : 32 ∉ stL s := by
  unfold stL
  by_cases c : s < 0
  · rw [if_pos c]
    intro h
    rcases List.mem_cons.mp h with h | h
    · cases h
    · exact numL_no32 _ h
  · rw [if_neg c]
    exact numL_no32 _
theorem row_no (r : List Nat) : Txt.startswith (SX.S (rowW ++ 32 :: r)) (Str.ofString "rule ") = false := by
  unfold Txt.startswith
  rw [Bool.and_eq_false_iff]
  right
  rw [StrLaws.subAt_eq]
  show (((rowW ++ 32 :: r).toArray.toList.drop 0).take _ == _) = false
  rw [List.toList_toArray]
  show ((114 :: 111 :: 119 :: 32 :: r).take 5 == [114, 117, 108, 101, 32]) = false
  rfl
theorem jump_no (r : List Nat) : Txt.startswith (SX.S (jumpW ++ r)) (Str.ofString "rule ") = false := by
  unfold Txt.startswith
  rw [Bool.and_eq_false_iff]
  right
  rw [StrLaws.subAt_eq]
  show (((jumpW ++ r).toArray.toList.drop 0).take _ == _) = false
  rw [List.toList_toArray]
  rfl
theorem ask_row {t pl m s n : Int} {xs : List Int} {tL fR fM fT : Addr} (R : Rule t pl m) (s0 : 0 ≤ s) (s1 : s < m) (n0 : 1 ≤ n) (n1 : n ≤ 60)
    (eL : Ent K dL (SX.S rowW) (.ref tL)) (eT : KTup K tL [.str "START", .str "MANY"]) (eR : Ent K dR "START" (.ref fR)) (h_rn : HeldX P w K mg base (L2.CX P w) 4 fR (sp1 (pRdNum P1 P2))) (eM : Ent K dR "MANY" (.ref fM)) (h_rm : HeldX P w K mg base (L2.CX P w) 4 fM (sp1 (pRdMany P1 P2))) (eA : Ent K dA (SX.S rowW) (.ref fT)) (h_tn : HeldX P w K mg base (L2.CX P w) 11 fT (sp2 (pTellRow C CK P1 P2))) :
    AskOk P w K mg base C CK P1 P2 dL dR dA t pl m xs (rowW ++ 32 :: (TL.numL s.toNat ++ 32 :: TL.numL n.toNat)) (rowL (orb (stp t pl m) n.toNat s)) := by
  refine ⟨strOk_S (rowL_lt _), ?_⟩
  intro H Q E p u k l hd hT1 hT2 q
  have b2 := R.b2
  have kl : ∀ z : Int, 0 ≤ z → z ≤ 1000000000000 → (TL.numL z.toNat).length ≤ 13 := fun z z0 z1 => TL.numL_len (by decide) (by
    have : (10 : Nat) ^ 13 = 10000000000000 := by decide
    omega)
  have k1 := kl s s0 (by omega)
  have k2 := kl n (by omega) (by omega)
  have hd' := hd
  obtain ⟨⟨dx, hp⟩, hu, hk⟩ := hd
  refine ⟨p, dx, u, k, _, rfl, rfl, by rw [List.length_append, List.length_cons, List.length_append, List.length_cons]; show 3 + _ ≤ 600; omega, hp, hT1, hT2, .inr ⟨rowW, [TL.numL s.toNat, TL.numL n.toNat], ["START", "MANY"], [s, n], tL, fT, _, row_no _, wds_three (by decide) (numL_no32 _) (numL_no32 _), eL, eT, rfl, rfl, by show 2 ≤ 9; decide, (fun i z w' v h1 h2 h3 => ?_), eA, h_tn, fun H1 nl g1 hnl => ?_⟩⟩
  · match i, h1, h2, h3 with
    | 0, h1, h2, h3 =>
      cases h1
      cases h2
      cases h3
      refine ⟨fR, _, eR, h_rn, fun H0 Q0 E0' t1 t2 go => ⟨_, rfl, s.toNat, rfl, by omega, t1, t2, fun H' g => ?_⟩⟩
      rw [Int.toNat_of_nonneg s0]
      exact go H' g
    | 1, h1, h2, h3 =>
      cases h1
      cases h2
      cases h3
      refine ⟨fM, _, eM, h_rm, fun H0 Q0 E0' t1 t2 go => ⟨_, rfl, n.toNat, rfl, by omega, by omega, t1, t2, fun H' g => ?_⟩⟩
      rw [Int.toNat_of_nonneg (by omega)]
      exact go H' g
    | n + 2, h1, _, _ => cases h1
  · have D1 := hd'.grow hT1 hT2 g1
    exact ⟨_, _, rfl, p, u, k, l, nl, t, pl, m, s, n, xs, rfl, rfl, D1, R, hnl, s0, s1, n0, n1, g1.t1, g1.t2, fun H2 q2 g2 nq2 hq2 => q _ q2 (g1.trans g2) (Grow.freeG g1 hT1 hT2 nq2) hq2⟩
theorem ask_jump {t pl m s n y : Int} {xs : List Int} {tL fR fM fT : Addr} (R : Rule t pl m) (s0 : 0 ≤ s) (s1 : s < m) (ln : (TL.numL n.natAbs).length ≤ 19) (y0 : 0 ≤ y) (y1 : y < m) (hy : (0 ≤ n ∧ y = ahd t pl m n.toNat s) ∨ (n < 0 ∧ Int.gcd t m = 1 ∧ ∀ z, Back t pl m (-n).toNat s z → z = y))
    (eL : Ent K dL (SX.S jumpW) (.ref tL)) (eT : KTup K tL [.str "START", .str "STEPS"]) (eR : Ent K dR "START" (.ref fR)) (h_rn : HeldX P w K mg base (L2.CX P w) 4 fR (sp1 (pRdNum P1 P2))) (eM : Ent K dR "STEPS" (.ref fM)) (h_rm : HeldX P w K mg base (L2.CX P w) 4 fM (sp1 (pRdSteps P1 P2))) (eA : Ent K dA (SX.S jumpW) (.ref fT)) (h_tn : HeldX P w K mg base (L2.CX P w) 11 fT (sp2 (pTellJump C CK P1 P2))) :
    AskOk P w K mg base C CK P1 P2 dL dR dA t pl m xs (jumpW ++ 32 :: (TL.numL s.toNat ++ 32 :: stL n)) (TL.numL y.toNat) := by
  refine ⟨strOk_S (numL_lt _), ?_⟩
  intro H Q E p u k l hd hT1 hT2 q
  have b2 := R.b2
  have k1 : (TL.numL s.toNat).length ≤ 13 := TL.numL_len (by decide) (by
    have : (10 : Nat) ^ 13 = 10000000000000 := by decide
    omega)
  have k2 : (stL n).length ≤ 20 := by
    unfold stL
    by_cases c : n < 0
    · rw [if_pos c, List.length_cons, show (-n).toNat = n.natAbs by omega]
      omega
    · rw [if_neg c, show n.toNat = n.natAbs by omega]
      omega
  have hd' := hd
  obtain ⟨⟨dx, hp⟩, hu, hk⟩ := hd
  refine ⟨p, dx, u, k, _, rfl, rfl, by rw [List.length_append, List.length_cons, List.length_append, List.length_cons]; show 4 + _ ≤ 600; omega, hp, hT1, hT2, .inr ⟨jumpW, [TL.numL s.toNat, stL n], ["START", "STEPS"], [s, n], tL, fT, _, jump_no _, wds_three (by decide) (numL_no32 _) (stL_no32 _), eL, eT, rfl, rfl, by show 2 ≤ 9; decide, (fun i z w' v h1 h2 h3 => ?_), eA, h_tn, fun H1 nl g1 hnl => ?_⟩⟩
  · match i, h1, h2, h3 with
    | 0, h1, h2, h3 =>
      cases h1
      cases h2
      cases h3
      refine ⟨fR, _, eR, h_rn, fun H0 Q0 E0' t1 t2 go => ⟨_, rfl, s.toNat, rfl, by omega, t1, t2, fun H' g => ?_⟩⟩
      rw [Int.toNat_of_nonneg s0]
      exact go H' g
    | 1, h1, h2, h3 =>
      cases h1
      cases h2
      cases h3
      exact ⟨fM, _, eM, h_rm, fun H0 Q0 E0' t1 t2 go => ⟨_, rfl, n, rfl, ln, t1, t2, go⟩⟩
    | n + 2, h1, _, _ => cases h1
  · have D1 := hd'.grow hT1 hT2 g1
    exact ⟨_, _, rfl, p, u, k, l, nl, t, pl, m, s, n, y, xs, rfl, rfl, D1, R, hnl, s0, s1, g1.t1, g1.t2, y0, y1, hy, fun H2 q2 g2 nq2 hq2 => q _ q2 (g1.trans g2) (Grow.freeG g1 hT1 hT2 nq2) hq2⟩
end
theorem row_S : Str.empty ++ Str.ofString "row " = SX.S (rowW ++ [32]) := by
  have e1 : Str.empty = SX.S [] := by decide
  have e2 : Str.ofString "row " = SX.S (rowW ++ [32]) := by decide
  rw [e1, e2, SX.S_cat]
  rfl
theorem next_S : Str.empty ++ Str.ofString "next " = SX.S (nextW ++ [32]) := by
  have e1 : Str.empty = SX.S [] := by decide
  have e2 : Str.ofString "next " = SX.S (nextW ++ [32]) := by decide
  rw [e1, e2, SX.S_cat]
  rfl
theorem jump_S : Str.empty ++ Str.ofString "jump " = SX.S (jumpW ++ [32]) := by
  have e1 : Str.empty = SX.S [] := by decide
  have e2 : Str.ofString "jump " = SX.S (jumpW ++ [32]) := by decide
  rw [e1, e2, SX.S_cat]
  rfl
theorem blank_S : Str.ofString " " = SX.S [32] := by decide
theorem three_S (a b c : List Nat) : a ++ [32] ++ b ++ [32] ++ c = a ++ 32 :: (b ++ 32 :: c) := by simp
/-- a list of pairs, each a line and what is due -/
def DuesAt (H : Hp) (DU : Addr) (es : List (Addr × List Nat × List Nat)) : Prop := H DU = some (.lst (es.map fun e => V.ref e.1)) ∧ ∀ e ∈ es, H e.1 = some (.lst [.str (SX.S e.2.1), .str (SX.S e.2.2)])
theorem DuesAt.same {H H' : Hp} {DU : Addr} {es : List (Addr × List Nat × List Nat)} (h : DuesAt H DU es) (s : Same H H') : DuesAt H' DU es := ⟨s _ _ h.1, fun e he => s _ _ (h.2 e he)⟩
theorem DuesAt.ne {H : Hp} {DU : Addr} {es : List (Addr × List Nat × List Nat)} (h : DuesAt H DU es) : ∀ e ∈ es, e.1 ≠ DU := fun e he z => by
  have h1 := h.2 e he
  rw [z, h.1] at h1
  match es, h1 with
  | [], h1 => cases he
  | e' :: r, h1 => cases h1
theorem DuesAt.add {H : Hp} {DU a : Addr} {es : List (Addr × List Nat × List Nat)} {li du : List Nat} (h : DuesAt H DU es) (ha : H a = some (.lst [.str (SX.S li), .str (SX.S du)])) : DuesAt (upd H DU (.lst ((es.map fun e => V.ref e.1) ++ [.ref a]))) DU (es ++ [(a, li, du)]) := by
  have na : a ≠ DU := fun z => by
    rw [z, h.1] at ha
    match es, ha with
    | [], ha => cases ha
    | e' :: r, ha => cases ha
  refine ⟨by rw [upd_same, List.map_append]; rfl, fun e he => ?_⟩
  rcases List.mem_append.mp he with he | he
  · rw [upd_ne (h.ne e he)]
    exact h.2 e he
  · simp only [List.mem_cons, List.not_mem_nil, or_false] at he
    subst he
    rw [upd_ne na]
    exact ha
end Tw

/-! What is held of a desk's answers; the desk beside a seed and beside what is held. -/
namespace Tw
open PySem PySem.Spec PyProof.Rows L2
/-- what stands stands, but for the tables, the seed and what is held -/
def Kp (P1 P2 d LH : Addr) (H H' : Hp) : Prop := ∀ b o, b ≠ P1 → b ≠ P2 → b ≠ d → b ≠ LH → H b = some o → H' b = some o
/-- pairs of told lists and due lists, alike -/
def HeldP (H : Hp) (LH : Addr) (hs : List Addr) : Prop := H LH = some (.lst (hs.map V.ref)) ∧ ∀ x ∈ hs, ∃ (a b : Addr) (z : Str) (r : List Str), H x = some (.tup [.ref a, .ref b]) ∧ H a = some (.lst (.str z :: r.map V.str)) ∧ H b = some (.lst (.str z :: r.map V.str)) ∧ SeqAt.shaped (.list ((z :: r).map PyData.str)) = true
theorem dp_strs {K : PySem.W.Frag} {H : Hp} : ∀ zs : List Str, DpAll K H (zs.map V.str) (zs.map PyData.str)
  | [] => .nil
  | z :: zs => .cons (.str z) (dp_strs zs)
theorem HeldP.nil {H : Hp} {LH : Addr} (h : H LH = some (.lst [])) : HeldP H LH [] := ⟨h, fun x hx => by cases hx⟩
theorem HeldP.same {H H' : Hp} {LH : Addr} {hs : List Addr} (h : HeldP H LH hs) (s : Same H H') : HeldP H' LH hs := ⟨s _ _ h.1, fun x hx => by
  obtain ⟨a, b, z, r, e1, e2, e3, o⟩ := h.2 x hx
  exact ⟨a, b, z, r, s _ _ e1, s _ _ e2, s _ _ e3, o⟩⟩
theorem HeldP.grow {H H' : Hp} {LH P1 P2 : Addr} {hs : List Addr} (h : HeldP H LH hs) (t1 : GxR.TabG H P1) (t2 : GxR.TabG H P2) (g : Grow P1 P2 H H') : HeldP H' LH hs := ⟨g.get t1 t2 h.1 (fun ps z => by cases z), fun x hx => by
  obtain ⟨a, b, z, r, e1, e2, e3, o⟩ := h.2 x hx
  exact ⟨a, b, z, r, g.get t1 t2 e1 (fun ps z => by cases z), g.get t1 t2 e2 (fun ps z => by cases z), g.get t1 t2 e3 (fun ps z => by cases z), o⟩⟩
/-- one str in a list is no list of addresses -/
theorem HeldP.neS {H : Hp} {LH a : Addr} {hs : List Addr} {z : Str} {r : List V} (h : HeldP H LH hs) (e : H a = some (.lst (.str z :: r))) : a ≠ LH := fun y => by
  rw [y, h.1] at e
  match hs, e with
  | [], e => cases e
  | x :: r, e => cases e
theorem HeldP.neI {H : Hp} {LH a : Addr} {hs : List Addr} {z : Int} {r : List V} (h : HeldP H LH hs) (e : H a = some (.lst (.int z :: r))) : a ≠ LH := fun y => by
  rw [y, h.1] at e
  match hs, e with
  | [], e => cases e
  | x :: r, e => cases e
theorem HeldP.neT {H : Hp} {LH a : Addr} {hs : List Addr} {r : List V} (h : HeldP H LH hs) (e : H a = some (.tup r)) : a ≠ LH := fun y => by
  rw [y, h.1] at e
  cases e
theorem HeldP.add {H : Hp} {LH x a b : Addr} {hs : List Addr} {z : Str} {r : List Str} (h : HeldP H LH hs) (e1 : H x = some (.tup [.ref a, .ref b])) (e2 : H a = some (.lst (.str z :: r.map V.str))) (e3 : H b = some (.lst (.str z :: r.map V.str))) (o : SeqAt.shaped (.list ((z :: r).map PyData.str)) = true) : HeldP (upd H LH (.lst (hs.map V.ref ++ [.ref x]))) LH (hs ++ [x]) := by
  refine ⟨by rw [upd_same, List.map_append]; rfl, fun y hy => ?_⟩
  rcases List.mem_append.mp hy with hy | hy
  · obtain ⟨a, b, z, r, f1, f2, f3, o⟩ := h.2 y hy
    exact ⟨a, b, z, r, by rw [upd_ne (h.neT f1)]; exact f1, by rw [upd_ne (h.neS f2)]; exact f2, by rw [upd_ne (h.neS f3)]; exact f3, o⟩
  · rw [List.mem_singleton.mp hy]
    exact ⟨a, b, z, r, by rw [upd_ne (h.neT e1)]; exact e1, by rw [upd_ne (h.neS e2)]; exact e2, by rw [upd_ne (h.neS e3)]; exact e3, o⟩
theorem HeldP.butS {H H' : Hp} {LH d : Addr} {n : Nat} {hs : List Addr} (h : HeldP H LH hs) (hD : Seed H d n) (b : But d H H') : HeldP H' LH hs := by
  obtain ⟨r, f, k, c, e, _⟩ := hD
  refine ⟨b _ _ (fun y => h.neI e y.symm) h.1, fun x hx => ?_⟩
  obtain ⟨a, b', z, r', e1, e2, e3, o⟩ := h.2 x hx
  exact ⟨a, b', z, r', b _ _ (fun y => by rw [y, e] at e1; cases e1) e1, b _ _ (fun y => by rw [y, e] at e2; cases e2) e2, b _ _ (fun y => by rw [y, e] at e3; cases e3) e3, o⟩
theorem DeskAt.butS {C CK : Addr} {H H' : Hp} {p u k l d : Addr} {n : Nat} {t pl m : Int} {xs : List Int} (h : DeskAt C CK H p u k l t pl m xs) (hD : Seed H d n) (nl : l ≠ d) (b : But d H H') : DeskAt C CK H' p u k l t pl m xs := by
  obtain ⟨r, f, kk, c, e, _⟩ := hD
  obtain ⟨⟨dx, hp⟩, hu, ⟨dk, hk⟩, hl⟩ := h
  exact ⟨⟨dx, b _ _ (fun y => by rw [y, e] at hp; cases hp) hp⟩, b _ _ (fun y => by rw [y, e] at hu; cases hu) hu, ⟨dk, b _ _ (fun y => by rw [y, e] at hk; cases hk) hk⟩, b _ _ nl hl⟩
theorem tabG_butD {H H' : Hp} {P d : Addr} {n : Nat} (h : GxR.TabG H P) (hD : Seed H d n) (b : But d H H') : GxR.TabG H' P := by
  obtain ⟨r, f, kk, c, e2, _⟩ := hD
  obtain ⟨ps, e, z⟩ := h
  exact ⟨ps, b _ _ (fun y => by rw [y, e2] at e; cases e) e, z⟩
/-- a list of ours is changed -/
theorem tabG_updL {H : Hp} {P LH : Addr} {ys : List V} {o : HO} (h : GxR.TabG H P) (e2 : H LH = some (.lst ys)) : GxR.TabG (upd H LH o) P := by
  obtain ⟨ps, e, z⟩ := h
  exact ⟨ps, by rw [upd_ne (fun y => by rw [y, e2] at e; cases e)]; exact e, z⟩
theorem DeskAt.updL {C CK : Addr} {H : Hp} {p u k l LH : Addr} {t pl m : Int} {xs : List Int} {ys : List V} {o : HO} (h : DeskAt C CK H p u k l t pl m xs) (e : H LH = some (.lst ys)) (nl : l ≠ LH) : DeskAt C CK (upd H LH o) p u k l t pl m xs := by
  obtain ⟨⟨dx, hp⟩, hu, ⟨dk, hk⟩, hl⟩ := h
  exact ⟨⟨dx, by rw [upd_ne (fun y => by rw [y, e] at hp; cases hp)]; exact hp⟩, by rw [upd_ne (fun y => by rw [y, e] at hu; cases hu)]; exact hu, ⟨dk, by rw [upd_ne (fun y => by rw [y, e] at hk; cases hk)]; exact hk⟩, by rw [upd_ne nl]; exact hl⟩
theorem DeskAt.kpL {C CK P1 P2 LH : Addr} {H H' : Hp} {p u k l : Addr} {t pl m : Int} {xs : List Int} {ys : List V} (h : DeskAt C CK H p u k l t pl m xs) (t1 : GxR.TabG H P1) (t2 : GxR.TabG H P2) (e : H LH = some (.lst ys)) (nl : l ≠ LH) (kp : Kp P1 P2 LH LH H H') : DeskAt C CK H' p u k l t pl m xs := by
  obtain ⟨⟨dx, hp⟩, hu, ⟨dk, hk⟩, hl⟩ := h
  have g : ∀ {a : Addr} {o : HO}, H a = some o → (∀ ps, o ≠ .tbl ps) → a ≠ LH → H' a = some o := fun {a o} e1 n1 n2 => kp _ _ (tabG_ne t1 e1 n1) (tabG_ne t2 e1 n1) n2 n2 e1
  exact ⟨⟨dx, g hp (fun ps z => by cases z) (fun y => by rw [y, e] at hp; cases hp)⟩, g hu (fun ps z => by cases z) (fun y => by rw [y, e] at hu; cases hu), ⟨dk, g hk (fun ps z => by cases z) (fun y => by rw [y, e] at hk; cases hk)⟩, g hl (fun ps z => by cases z) nl⟩
/-- an empty list beside is changed -/
theorem HeldP.updO {H : Hp} {LH q : Addr} {hs : List Addr} {o : HO} (h : HeldP H LH hs) (e : H q = some (.lst [])) (n : q ≠ LH) : HeldP (upd H q o) LH hs := by
  refine ⟨by rw [upd_ne (Ne.symm n)]; exact h.1, fun x hx => ?_⟩
  obtain ⟨a, b, z, r, e1, e2, e3, sh⟩ := h.2 x hx
  exact ⟨a, b, z, r, by rw [upd_ne (fun y => by rw [y, e] at e1; cases e1)]; exact e1, by rw [upd_ne (fun y => by rw [y, e] at e2; cases e2)]; exact e2, by rw [upd_ne (fun y => by rw [y, e] at e3; cases e3)]; exact e3, sh⟩
theorem HeldP.desked {H H' : Hp} {LH P1 P2 p dx : Addr} {C : Addr} {fs : List (Str × V)} {hs : List Addr} (h : HeldP H LH hs) (t1 : GxR.TabG H P1) (t2 : GxR.TabG H P2) (hp : H p = some (.ins C dx fs)) (g : Desked P1 P2 p H H') : HeldP H' LH hs := by
  have k : ∀ {x : Addr} {o : HO}, H x = some o → (∀ ps, o ≠ .tbl ps) → (x = p → False) → H' x = some o := fun {x o} e n np => g.2.2 _ _ (tabG_ne t1 e n) (tabG_ne t2 e n) np e
  refine ⟨k h.1 (fun ps z => by cases z) (fun y => by rw [← y, h.1] at hp; cases hp), fun x hx => ?_⟩
  obtain ⟨a, b, z, r, e1, e2, e3, sh⟩ := h.2 x hx
  exact ⟨a, b, z, r, k e1 (fun ps z => by cases z) (fun y => by rw [← y, e1] at hp; cases hp), k e2 (fun ps z => by cases z) (fun y => by rw [← y, e2] at hp; cases hp), k e3 (fun ps z => by cases z) (fun y => by rw [← y, e3] at hp; cases hp), sh⟩
theorem Seed.desked {H H' : Hp} {P1 P2 p dx d : Addr} {n : Nat} {C : Addr} {fs : List (Str × V)} (h : Seed H d n) (t1 : GxR.TabG H P1) (t2 : GxR.TabG H P2) (hp : H p = some (.ins C dx fs)) (g : Desked P1 P2 p H H') : Seed H' d n := by
  obtain ⟨r, f, k, c, e, z⟩ := h
  exact ⟨r, f, k, c, g.2.2 _ _ (tabG_ne t1 e (fun ps z => by cases z)) (tabG_ne t2 e (fun ps z => by cases z)) (fun y => by rw [← y, e] at hp; cases hp) e, z⟩
theorem Kp.refl {P1 P2 d LH : Addr} {H : Hp} : Kp P1 P2 d LH H H := fun _ _ _ _ _ _ e => e
theorem Kp.trans {P1 P2 d LH : Addr} {H H1 H2 : Hp} (a : Kp P1 P2 d LH H H1) (b : Kp P1 P2 d LH H1 H2) : Kp P1 P2 d LH H H2 := fun c o n1 n2 n3 n4 e => b c o n1 n2 n3 n4 (a c o n1 n2 n3 n4 e)
theorem Kp.same {P1 P2 d LH : Addr} {H H1 H2 : Hp} (a : Kp P1 P2 d LH H H1) (s : Same H1 H2) : Kp P1 P2 d LH H H2 := fun c o n1 n2 n3 n4 e => s _ _ (a c o n1 n2 n3 n4 e)
theorem Kp.grow {P1 P2 d LH : Addr} {H H1 H2 : Hp} (a : Kp P1 P2 d LH H H1) (g : Grow P1 P2 H1 H2) : Kp P1 P2 d LH H H2 := fun c o n1 n2 n3 n4 e => g.keep _ _ n1 n2 (a c o n1 n2 n3 n4 e)
theorem Kp.updL {P1 P2 d LH : Addr} {H H1 : Hp} {o : HO} (a : Kp P1 P2 d LH H H1) : Kp P1 P2 d LH H (upd H1 LH o) := fun c u n1 n2 n3 n4 e => by rw [upd_ne n4]; exact a c u n1 n2 n3 n4 e
theorem Kp.but {P1 P2 d LH : Addr} {H H1 H2 : Hp} (a : Kp P1 P2 d LH H H1) (b : But d H1 H2) : Kp P1 P2 d LH H H2 := fun c o n1 n2 n3 n4 e => b _ _ n3 (a c o n1 n2 n3 n4 e)
/-- a new list beside all is changed -/
theorem Kp.updN {P1 P2 d LH q : Addr} {H H1 : Hp} {o : HO} (a : Kp P1 P2 d LH H H1) (n : H q = none) : Kp P1 P2 d LH H (upd H1 q o) := fun c u n1 n2 n3 n4 e => by rw [upd_ne (ne_of_none e n)]; exact a c u n1 n2 n3 n4 e
/-- a list that is new is changed -/
theorem Grow.updN {P1 P2 q : Addr} {H H1 : Hp} {o : HO} {ys : List V} (g : Grow P1 P2 H H1) (n : H q = none) (e : H1 q = some (.lst ys)) : Grow P1 P2 H (upd H1 q o) :=
  ⟨tabG_updL g.t1 e, tabG_updL g.t2 e, fun b u n1 n2 h => by rw [upd_ne (ne_of_none h n)]; exact g.keep _ _ n1 n2 h⟩
theorem Grow.sqL {K : PySem.W.Frag} {H H' : Hp} {P1 P2 a : Addr} {xs : List V} (g : Grow P1 P2 H H') (t1 : GxR.TabG H P1) (t2 : GxR.TabG H P2) (h : SqL K H a xs) : SqL K H' a xs := by
  rcases h with (h | ⟨ob, h⟩) | h
  · exact .inl (.inl (g.get t1 t2 h (fun ps z => by cases z)))
  · exact .inl (.inr ⟨ob, g.get t1 t2 h (fun ps z => by cases z)⟩)
  · exact .inr h
theorem Seed.grow {H H' : Hp} {P1 P2 d : Addr} {n : Nat} (h : Seed H d n) (t1 : GxR.TabG H P1) (t2 : GxR.TabG H P2) (g : Grow P1 P2 H H') : Seed H' d n := by
  obtain ⟨r, f, k, c, e, z⟩ := h
  exact ⟨r, f, k, c, g.get t1 t2 e (fun ps z => by cases z), z⟩
end Tw

/-! What the desk's other actions do and tell. -/
namespace Tw
open PySem PySem.Spec PyProof.Rows L2
def noneL : List Nat := [110, 111, 110, 101]
def anyL : List Nat := [97, 110, 121]
def yesL : List Nat := [121, 101, 115]
def noL : List Nat := [110, 111]
theorem none_S : Str.ofString "none" = SX.S noneL := by decide
theorem any_S : Str.ofString "any" = SX.S anyL := by decide
theorem yes_S : Str.ofString "yes" = SX.S yesL := by decide
theorem no_S : Str.ofString "no" = SX.S noL := by decide
/-- a number or none -/
def vL : V → List Nat
  | .int z => TL.numL z.toNat
  | _ => noneL
/-- two numbers -/
def pairL (a b : Int) : List Nat := TL.numL a.toNat ++ [32] ++ TL.numL b.toNat
theorem pairL_row (a b : Int) : pairL a b = rowL [a, b] := by
  simp [pairL, rowL, TL.joinL]
theorem numL13 {z : Int} (h : z ≤ 1000000000000) : (TL.numL z.toNat).length ≤ 13 := TL.numL_len (by decide) (by
  have : (10 : Nat) ^ 13 = 10000000000000 := by decide
  omega)
theorem pairL_len {a b : Int} (ha : a ≤ 1000000000000) (hb : b ≤ 1000000000000) : (pairL a b).length ≤ 27 := by
  have := numL13 ha
  have := numL13 hb
  unfold pairL
  rw [List.length_append, List.length_append]
  show _ + 1 + _ ≤ 27
  omega
def pShowN : V → Hp → VK → XK → Prop := fun a H Q _ => (a = .non ∨ ∃ z, a = .int z ∧ 0 ≤ z ∧ z ≤ 1000000000000) ∧ Q (.str (SX.S (vL a))) H
def pSmall (K : PySem.W.Frag) (CA : Addr) : V → Hp → VK → XK → Prop := fun a H Q E => ∃ (r : Addr) (t p m : Int), a = .ref r ∧ SqT K H r [.int t, .int p, .int m] ∧ (m ≤ 2000 → Q .non H) ∧ (2000 < m → E (.ref CA) none H)
def pDoSeen (C CK CA CN CF : Addr) : V → V → Hp → VK → XK → Prop := fun a b H Q E => ∃ (p u k l nl : Addr) (t pl m n : Int) (xs : List Int), a = .ref p ∧ b = .ref nl ∧ DeskAt C CK H p u k l t pl m xs ∧ Rule t pl m ∧ H nl = some (.lst [.int n]) ∧ xs.length ≤ 60 ∧ Rng m xs ∧
  (60 ≤ xs.length → ∀ H', Same H H' → E (.ref CA) none H') ∧ (xs.length < 60 → ¬ (0 ≤ n ∧ n < m) → ∀ H', Same H H' → Bad CN n H' E) ∧ (xs.length < 60 → 0 ≤ n ∧ n < m → ¬ Fits m (xs ++ [n]) → ∀ H', Same H H' → E (.ref CF) none H') ∧
  (xs.length < 60 → 0 ≤ n ∧ n < m → Fits m (xs ++ [n]) → ∀ H' q, Frm l H H' → DeskAt C CK H' p u k l t pl m (xs ++ [n]) → H q = none → H' q = some (.lst []) → Q (.ref q) H')
def pDoBack (C CK CF : Addr) : V → V → Hp → VK → XK → Prop := fun a _ H Q E => ∃ (p u k l : Addr) (t pl m : Int) (xs : List Int), a = .ref p ∧ DeskAt C CK H p u k l t pl m xs ∧ xs.length ≤ 60 ∧ (xs = [] → E (.ref CF) none H) ∧
  (xs ≠ [] → ∀ H' q, Frm l H H' → DeskAt C CK H' p u k l t pl m xs.dropLast → H q = none → H' q = some (.lst []) → Q (.ref q) H')
def pTellRound (C CK CA CN P1 P2 : Addr) : V → V → Hp → VK → XK → Prop := fun a b H Q E => ∃ (p u k l nl : Addr) (t pl m n : Int) (xs : List Int), a = .ref p ∧ b = .ref nl ∧ DeskAt C CK H p u k l t pl m xs ∧ Rule t pl m ∧ H nl = some (.lst [.int n]) ∧ GxR.TabG H P1 ∧ GxR.TabG H P2 ∧
  (2000 < m → E (.ref CA) none H) ∧ (m ≤ 2000 → ¬ (0 ≤ n ∧ n < m) → Bad CN n H E) ∧ (m ≤ 2000 → 0 ≤ n → n < m → Says P1 P2 H Q (SX.S (pairL (rndT t pl m n) (rndL t pl m n))))
/-- the texts of pairs -/
def pairsS (zs : List (Int × Int)) : List Str := zs.map fun z => SX.S (pairL z.1 z.2)
def pTellRounds (C CK CA P1 P2 : Addr) : V → V → Hp → VK → XK → Prop := fun a _ H Q E => ∃ (p u k l : Addr) (t pl m : Int) (xs : List Int), a = .ref p ∧ DeskAt C CK H p u k l t pl m xs ∧ Rule t pl m ∧ GxR.TabG H P1 ∧ GxR.TabG H P2 ∧ (2000 < m → E (.ref CA) none H) ∧
  (m ≤ 2000 → ∀ H' q zs, Grow P1 P2 H H' → H q = none → Rds (stp t pl m) m zs → H' q = some (.lst ((pairsS zs).map V.str)) → Q (.ref q) H')
def pTellOne (C CK P1 P2 : Addr) : V → V → Hp → VK → XK → Prop := fun a _ H Q _ => ∃ (p u k l : Addr) (t pl m : Int) (xs : List Int), a = .ref p ∧ DeskAt C CK H p u k l t pl m xs ∧ Rule t pl m ∧ GxR.TabG H P1 ∧ GxR.TabG H P2 ∧
  ∀ b : Bool, (b = true ↔ ClsR t pl m) → Says P1 P2 H Q (SX.S (if b = true then yesL else noL))
def pTellFits (C CK P1 P2 : Addr) : V → V → Hp → VK → XK → Prop := fun a _ H Q _ => ∃ (p u k l : Addr) (t pl m : Int) (xs : List Int), a = .ref p ∧ DeskAt C CK H p u k l t pl m xs ∧ Rule t pl m ∧ xs.length ≤ 60 ∧ Rng m xs ∧ Fits m xs ∧ GxR.TabG H P1 ∧ GxR.TabG H P2 ∧
  (xs.length < 2 → Says P1 P2 H Q (SX.S anyL)) ∧ (2 ≤ xs.length → ∀ ll s, FitR m xs (xs.length - 2) (some (ll, s)) → Says P1 P2 H Q (SX.S (pairL ll s)))
def pTellGuess (C CK P1 P2 : Addr) : V → V → Hp → VK → XK → Prop := fun a _ H Q _ => ∃ (p u k l : Addr) (t pl m : Int) (xs : List Int), a = .ref p ∧ DeskAt C CK H p u k l t pl m xs ∧ Rule t pl m ∧ xs.length ≤ 60 ∧ Rng m xs ∧ Fits m xs ∧ GxR.TabG H P1 ∧ GxR.TabG H P2 ∧
  ∀ v, GssN m xs v → Says P1 P2 H Q (SX.S (vL v))
def pTellSettled (C CK P1 P2 : Addr) : V → V → Hp → VK → XK → Prop := fun a _ H Q _ => ∃ (p u k l : Addr) (t pl m : Int) (xs : List Int), a = .ref p ∧ DeskAt C CK H p u k l t pl m xs ∧ Rule t pl m ∧ xs.length ≤ 60 ∧ Rng m xs ∧ GxR.TabG H P1 ∧ GxR.TabG H P2 ∧
  (xs.length < 2 → Says P1 P2 H Q (SX.S noneL)) ∧ (2 ≤ xs.length → ∀ v, Sett m xs v → Says P1 P2 H Q (SX.S (vL v)))
theorem rnd_bd {t p m s : Int} (m0 : 0 < m) (s0 : 0 ≤ s) (s1 : s < m) : 0 ≤ rndT t p m s ∧ rndT t p m s ≤ m ∧ 0 ≤ rndL t p m s ∧ rndL t p m s ≤ m := by
  obtain ⟨nd, rg, hm⟩ := wk_good (t := t) (p := p) m0 (m.toNat + 1) [] s List.nodup_nil (fun x hx => by cases hx) ⟨s0, s1⟩ (by show _ ≤ _ + 0; omega)
  have h1 := int_len nd rg
  have h2 := List.idxOf_lt_length_of_mem hm
  unfold rndL rndT rndW
  omega
theorem DeskAt.frm {C CK : Addr} {H H' : Hp} {p u k l : Addr} {t pl m : Int} {xs ys : List Int} (h : DeskAt C CK H p u k l t pl m xs) (f : Frm l H H') (K : KeptAt CK H' k l m ys) : DeskAt C CK H' p u k l t pl m ys := by
  obtain ⟨⟨dx, hp⟩, hu, ⟨dk, hk⟩, hl⟩ := h
  exact ⟨⟨dx, f _ _ (fun z => by rw [z, hl] at hp; cases hp) hp⟩, f _ _ (fun z => by rw [z, hl] at hu; cases hu) hu, K⟩
theorem Frm.free {l q : Addr} {H H' : Hp} {o : HO} (f : Frm l H H') (e : H' l = some o) (n : H' q = none) : H q = none := by
  cases e2 : H q with
  | none => rfl
  | some o' => rw [f _ _ (fun z => by rw [z, e] at n; cases n) e2] at n; cases n
end Tw

/-! Taking numbers away that are nobody's next ones, by counts: what is left lies in rounds. -/
namespace Tw
open PySem PySem.Spec PyProof.Rows L2
/-- how many that are not in ps lead to x -/
def ind (f : Int → Int) (ys ps : List Int) (x : Int) : Nat := ys.countP fun y => decide (f y = x) && decide (y ∉ ps)
theorem ind_zero {f : Int → Int} {ys ps : List Int} {x : Int} : ind f ys ps x = 0 ↔ ∀ y ∈ ys, f y = x → y ∈ ps := by
  unfold ind
  rw [List.countP_eq_zero]
  constructor
  · intro h y hy e
    have := h y hy
    simp [e] at this
    exact this
  · intro h y hy
    by_cases e : f y = x
    · simp [h y hy e]
    · simp [e]
theorem ind_pos {f : Int → Int} {ys ps : List Int} {x : Int} : 0 < ind f ys ps x ↔ ∃ y ∈ ys, f y = x ∧ y ∉ ps := by
  unfold ind
  rw [List.countP_pos_iff]
  constructor
  · rintro ⟨y, hy, h⟩
    simp at h
    exact ⟨y, hy, h.1, h.2⟩
  · rintro ⟨y, hy, h1, h2⟩
    exact ⟨y, hy, by simp [h1, h2]⟩
theorem ind_step {f : Int → Int} {ps : List Int} {x z : Int} (hz : z ∉ ps) : ∀ {ys : List Int}, ys.Nodup → ind f ys (z :: ps) x + (if z ∈ ys ∧ f z = x then 1 else 0) = ind f ys ps x
  | [], _ => by simp [ind]
  | y :: ys, nd => by
    rw [List.nodup_cons] at nd
    have ih := ind_step (f := f) (x := x) hz nd.2
    have e1 : ∀ qs, ind f (y :: ys) qs x = ind f ys qs x + (if f y = x ∧ y ∉ qs then 1 else 0) := fun qs => by
      unfold ind
      rw [List.countP_cons]
      congr 1
      by_cases a : f y = x <;> by_cases b : y ∈ qs <;> simp [a, b]
    rw [e1, e1]
    by_cases c : y = z
    · subst c
      have n1 : ¬ (y ∈ ys ∧ f y = x) := fun h => nd.1 h.1
      rw [if_neg n1] at ih
      by_cases a : f y = x
      · simp [a, hz]
        omega
      · simp [a]
        omega
    · have n2 : (z ∈ y :: ys ∧ f z = x) ↔ (z ∈ ys ∧ f z = x) := by
        constructor
        · rintro ⟨h, e⟩
          exact ⟨(List.mem_cons.mp h).resolve_left (fun w => c w.symm), e⟩
        · rintro ⟨h, e⟩
          exact ⟨List.mem_cons_of_mem _ h, e⟩
      have n3 : (f y = x ∧ y ∉ z :: ps) ↔ (f y = x ∧ y ∉ ps) := by
        constructor
        · rintro ⟨a, h⟩
          exact ⟨a, fun w => h (List.mem_cons_of_mem _ w)⟩
        · rintro ⟨a, h⟩
          refine ⟨a, fun w => ?_⟩
          rcases List.mem_cons.mp w with w | w
          · exact c w
          · exact h w
      simp only [n2, n3]
      omega
/-- what stands at a number's place -/
def at' (cs : List Int) (x : Int) : Int := cs.getD x.toNat 0
/-- numbers taken away, ps; waiting to be, ws -/
structure Peel (f : Int → Int) (m : Int) (cs ps ws : List Int) : Prop where
  len : cs.length = m.toNat
  nd : ps.Nodup
  rg : Rng m ps
  gone : ∀ x ∈ ps, at' cs x = -1
  cnt : ∀ x, 0 ≤ x → x < m → x ∉ ps → at' cs x = (ind f (alls m) ps x : Int)
  wnd : ws.Nodup
  wt : ∀ x, x ∈ ws ↔ (0 ≤ x ∧ x < m) ∧ x ∉ ps ∧ ind f (alls m) ps x = 0
  cl : ∀ x ∈ ps, ∀ y ∈ alls m, f y = x → y ∈ ps
  np : ∀ x ∈ ps, ¬ ∃ L, Per f L x
theorem at_set {cs : List Int} {x y v : Int} (x0 : 0 ≤ x) (x1 : x.toNat < cs.length) (y0 : 0 ≤ y) : at' (cs.set x.toNat v) y = if y = x then v else at' cs y := by
  unfold at'
  rw [List.getD_eq_getElem?_getD, List.getD_eq_getElem?_getD, List.getElem?_set]
  by_cases e : y = x
  · subst e
    simp [x1]
  · have : x.toNat ≠ y.toNat := by omega
    simp [e, this]
/-- one number is taken away: the counts, and who waits -/
theorem Peel.step {f : Int → Int} {m : Int} {cs ps ws : List Int} {x : Int} (fr : ∀ x, 0 ≤ f x ∧ f x < m) (h : Peel f m cs ps (ws ++ [x])) :
    (0 ≤ x ∧ x < m) ∧ (0 ≤ f x ∧ f x < m) ∧ f x ≠ x ∧ 1 ≤ at' cs (f x) ∧
    Peel f m ((cs.set x.toNat (-1)).set (f x).toNat (at' cs (f x) - 1)) (x :: ps) (if at' cs (f x) - 1 = 0 then ws ++ [f x] else ws) := by
  have hx := (h.wt x).mp (by simp)
  obtain ⟨hr, hp, hi⟩ := hx
  have pre : ∀ y ∈ alls m, f y = x → y ∈ ps := ind_zero.mp hi
  have xa := alls_mem.mpr hr
  have nx : f x ≠ x := fun e => hp (pre x xa e)
  have fp : f x ∉ ps := fun e => hp (h.cl _ e x xa rfl)
  have fr' := fr x
  have c1 : 0 < ind f (alls m) ps (f x) := ind_pos.mpr ⟨x, xa, rfl, hp⟩
  have ac := h.cnt (f x) fr'.1 fr'.2 fp
  have nda := alls_nodup m
  have st : ∀ y, ind f (alls m) (x :: ps) y + (if f x = y then 1 else 0) = ind f (alls m) ps y := fun y => by
    have := ind_step (f := f) (x := y) hp nda
    simpa [xa] using this
  have wnd := List.nodup_append.mp h.wnd
  have xw : x ∉ ws := fun e => wnd.2.2 x e x (by simp) rfl
  have fw : f x ∉ ws := fun e => by
    have := ((h.wt (f x)).mp (List.mem_append_left _ e)).2.2
    omega
  have lx : x.toNat < cs.length := by rw [h.len]; omega
  have lf : (f x).toNat < (cs.set x.toNat (-1)).length := by rw [List.length_set, h.len]; omega
  have atn : ∀ y, 0 ≤ y → at' ((cs.set x.toNat (-1)).set (f x).toNat (at' cs (f x) - 1)) y = if y = f x then at' cs (f x) - 1 else if y = x then -1 else at' cs y := fun y y0 => by
    rw [at_set fr'.1 lf y0, at_set hr.1 lx y0]
  refine ⟨hr, fr', nx, by omega, ⟨by rw [List.length_set, List.length_set]; exact h.len, List.nodup_cons.mpr ⟨hp, h.nd⟩, fun y hy => ?_, fun y hy => ?_, fun y y0 y1 yp => ?_, ?_, fun y => ?_, fun y hy z hz e => ?_, fun y hy => ?_⟩⟩
  · rcases List.mem_cons.mp hy with e | e
    · rw [e]; exact hr
    · exact h.rg y e
  · rcases List.mem_cons.mp hy with e | e
    · rw [e, atn x hr.1, if_neg (Ne.symm nx), if_pos rfl]
    · have yr := h.rg y e
      have n1 : y ≠ f x := fun z => fp (by rw [← z]; exact e)
      have n2 : y ≠ x := fun z => hp (by rw [← z]; exact e)
      rw [atn y yr.1, if_neg n1, if_neg n2]
      exact h.gone y e
  · have yp' : y ∉ ps := fun z => yp (List.mem_cons_of_mem _ z)
    have yx : y ≠ x := fun z => yp (by rw [z]; exact List.mem_cons_self)
    have s := st y
    rw [atn y y0]
    by_cases e : y = f x
    · subst e
      rw [if_pos rfl] at s ⊢
      omega
    · rw [if_neg e, if_neg yx, h.cnt y y0 y1 yp']
      rw [if_neg (fun z => e z.symm)] at s
      omega
  · by_cases e : at' cs (f x) - 1 = 0
    · rw [if_pos e]
      rw [List.nodup_append]
      exact ⟨wnd.1, by simp, fun a ha b hb => by
        rw [List.mem_singleton.mp hb]
        exact fun z => fw (z ▸ ha)⟩
    · rw [if_neg e]
      exact wnd.1
  · have s := st y
    have w := h.wt y
    have key : y ∈ (if at' cs (f x) - 1 = 0 then ws ++ [f x] else ws) ↔ y ∈ ws ∨ (y = f x ∧ at' cs (f x) - 1 = 0) := by
      by_cases e : at' cs (f x) - 1 = 0
      · simp [e]
      · simp [e]
    rw [key]
    constructor
    · rintro (hy | ⟨rfl, e⟩)
      · obtain ⟨a, b, c⟩ := w.mp (List.mem_append_left _ hy)
        refine ⟨a, fun z => ?_, by omega⟩
        rcases List.mem_cons.mp z with z | z
        · exact xw (z ▸ hy)
        · exact b z
      · refine ⟨fr', fun z => ?_, ?_⟩
        · rcases List.mem_cons.mp z with z | z
          · exact nx z
          · exact fp z
        · rw [if_pos rfl] at s
          omega
    · rintro ⟨a, b, c⟩
      have bp : y ∉ ps := fun z => b (List.mem_cons_of_mem _ z)
      have bx : y ≠ x := fun z => b (by rw [z]; exact List.mem_cons_self)
      by_cases e : f x = y
      · refine .inr ⟨e.symm, ?_⟩
        rw [if_pos e] at s
        rw [e] at ac
        rw [e]
        omega
      · rw [if_neg e] at s
        have := w.mpr ⟨a, bp, by omega⟩
        rcases List.mem_append.mp this with z | z
        · exact .inl z
        · exact absurd (List.mem_singleton.mp z) bx
  · rcases List.mem_cons.mp hy with e2 | e2
    · rw [e2] at e
      exact List.mem_cons_of_mem _ (pre z hz e)
    · exact List.mem_cons_of_mem _ (h.cl y e2 z hz e)
  · rcases List.mem_cons.mp hy with e2 | e2
    · rw [e2]
      rintro ⟨L, hL⟩
      obtain ⟨z, e1, ⟨n, e3⟩, M⟩ := per_prev hL
      have zr : 0 ≤ z ∧ z < m := by
        rw [← e3]
        cases n with
        | zero => exact hr
        | succ n => exact fr _
      exact h.np z (pre z (alls_mem.mpr zr) e1) M
    · exact h.np y e2
/-- none waits: what is left are the numbers of rounds -/
theorem Peel.left {f : Int → Int} {m : Int} {cs ps : List Int} (fr : ∀ x, 0 ≤ f x ∧ f x < m) (h : Peel f m cs ps []) {x : Int} (x0 : 0 ≤ x) (x1 : x < m) : 0 < at' cs x ↔ ∃ L, Per f L x := by
  have pos : ∀ y, 0 ≤ y → y < m → y ∉ ps → 0 < ind f (alls m) ps y := fun y y0 y1 hy => by
    refine Nat.pos_of_ne_zero fun e => ?_
    have := (h.wt y).mpr ⟨⟨y0, y1⟩, hy, e⟩
    cases this
  constructor
  · intro hc
    have xp : x ∉ ps := fun e => by rw [h.gone x e] at hc; omega
    refine onto_per (m := m) (l := (alls m).filter fun y => decide (y ∉ ps)) (fun y hy => alls_mem.mp (List.mem_filter.mp hy).1) (fun y hy => ?_) (List.mem_filter.mpr ⟨alls_mem.mpr ⟨x0, x1⟩, by simp [xp]⟩)
    obtain ⟨ya, yp⟩ := List.mem_filter.mp hy
    simp at yp
    have yr := alls_mem.mp ya
    obtain ⟨z, za, e, zp⟩ := ind_pos.mp (pos y yr.1 yr.2 yp)
    exact ⟨z, List.mem_filter.mpr ⟨za, by simp [zp]⟩, e⟩
  · rintro hL
    have xp : x ∉ ps := fun e => h.np x e hL
    rw [h.cnt x x0 x1 xp]
    have := pos x x0 x1 xp
    omega
/-- at first: how many lead to each -/
theorem Peel.first {f : Int → Int} {m : Int} {cs ws : List Int} (len : cs.length = m.toNat) (hc : ∀ x, 0 ≤ x → x < m → at' cs x = ((alls m).countP fun y => decide (f y = x) : Nat)) (hw : ws = (alls m).filter fun x => decide (at' cs x = 0)) : Peel f m cs [] ws := by
  have e : ∀ x, ind f (alls m) [] x = (alls m).countP fun y => decide (f y = x) := fun x => by
    unfold ind
    congr 1
    funext y
    simp
  refine ⟨len, List.nodup_nil, fun x hx => (by cases hx), fun x hx => (by cases hx), fun x x0 x1 _ => by rw [e, hc x x0 x1], by rw [hw]; exact (alls_nodup m).filter _, fun x => ?_, fun x hx => (by cases hx), fun x hx => (by cases hx)⟩
  rw [hw, List.mem_filter, alls_mem]
  constructor
  · rintro ⟨a, b⟩
    simp at b
    refine ⟨a, by simp, ?_⟩
    rw [e]
    have := hc x a.1 a.2
    omega
  · rintro ⟨a, _, b⟩
    refine ⟨a, ?_⟩
    rw [e] at b
    have := hc x a.1 a.2
    simp
    omega
theorem Peel.short {f : Int → Int} {m : Int} {cs ps ws : List Int} (h : Peel f m cs ps ws) : ps.length ≤ m.toNat := int_len h.nd h.rg
/-- rising numbers from 1 on: their sum -/
theorem sum_up : ∀ {ks : List Nat} {b : Nat}, ks.Nodup → (∀ k ∈ ks, 1 ≤ k) → ks.sum ≤ b → ks.length * (ks.length + 1) ≤ 2 * b := by
  intro ks b nd h1 hb
  suffices ∀ (n : Nat) (ks : List Nat), ks.length = n → ks.Nodup → (∀ k ∈ ks, 1 ≤ k) → n * (n + 1) ≤ 2 * ks.sum by
    have := this ks.length ks rfl nd h1
    omega
  intro n
  induction n with
  | zero => intro ks _ _ _; omega
  | succ n ih =>
    intro ks el nd h1
    -- some k is at least n + 1
    obtain ⟨k, hk, kn⟩ : ∃ k ∈ ks, n + 1 ≤ k := by
      refine Classical.byContradiction fun c => ?_
      have : (ks.map fun k => k - 1).length ≤ n := nat_len n (ks.map fun k => k - 1) (by
        rw [List.nodup_iff_pairwise_ne, List.pairwise_map]
        refine List.Pairwise.imp_of_mem (fun {a b} ha hb ne => ?_) (List.nodup_iff_pairwise_ne.mp nd)
        have := h1 a ha
        have := h1 b hb
        omega) (fun x hx => by
        obtain ⟨k, hk, rfl⟩ := List.mem_map.mp hx
        have := h1 k hk
        have : ¬ n + 1 ≤ k := fun z => c ⟨k, hk, z⟩
        omega)
      rw [List.length_map] at this
      omega
    have l2 : (ks.erase k).length = n := by
      rw [List.length_erase_of_mem hk]
      omega
    have := ih (ks.erase k) l2 (nd.erase k) (fun x hx => h1 x (List.mem_of_mem_erase hx))
    have s : ks.sum = k + (ks.erase k).sum := by
      have := List.Perm.sum_nat (List.perm_cons_erase hk)
      rw [List.sum_cons] at this
      exact this
    rw [s]
    have e : (n + 1) * (n + 1 + 1) = n * (n + 1) + 2 * (n + 1) := by
      rw [Nat.add_mul n 1, Nat.mul_add n (n + 1) 1, Nat.one_mul, Nat.mul_one]
      omega
    omega
theorem few64 {ks : List Nat} (nd : ks.Nodup) (h1 : ∀ k ∈ ks, 1 ≤ k) (hs : ks.sum ≤ 2000) : ks.length < 64 := by
  have h := sum_up nd h1 hs
  refine Classical.byContradiction fun c => ?_
  have : 64 * 65 ≤ ks.length * (ks.length + 1) := Nat.mul_le_mul (by omega) (by omega)
  omega
end Tw

/-! Bounds of planted primes. -/
namespace Tw
open PySem PySem.Spec PyProof.Rows L2
/-- no divisor up to the root: a prime -/
theorem prm_root (n : Nat) (r : Nat) (h2 : 2 ≤ n) (hr : n < (r + 1) * (r + 1)) (h : ∀ d, d < r + 1 → 2 ≤ d → n % d ≠ 0) : Prm (n : Int) := by
  refine ⟨by omega, fun d d0 hd => ?_⟩
  obtain ⟨c, hc⟩ := hd
  obtain ⟨dn, rfl⟩ : ∃ k : Nat, d = k := ⟨d.toNat, by omega⟩
  have c0 : 0 < c := by
    refine Classical.byContradiction fun z => ?_
    have : (dn : Int) * c ≤ 0 := Int.mul_nonpos_of_nonneg_of_nonpos (by omega) (by omega)
    omega
  obtain ⟨cn, rfl⟩ : ∃ k : Nat, c = k := ⟨c.toNat, by omega⟩
  have e : n = dn * cn := by exact_mod_cast hc
  by_cases a : dn < r + 1
  · by_cases b : 2 ≤ dn
    · exact absurd (by rw [e]; exact Nat.mul_mod_right dn cn) (h dn a b)
    · left
      omega
  · by_cases b : cn < r + 1
    · by_cases b2 : 2 ≤ cn
      · exact absurd (by rw [e]; exact Nat.mul_mod_left dn cn) (h cn b b2)
      · right
        have : cn = 1 := by omega
        subst this
        rw [Nat.mul_one] at e
        omega
    · have : (r + 1) * (r + 1) ≤ dn * cn := Nat.mul_le_mul (by omega) (by omega)
      omega
def prmL : List Int := [2, 2, 2, 3, 3, 5, 7, 11, 13, 101, 1009, 99991]
theorem prmL_prm : ∀ q ∈ prmL, Prm q := by
  have p2 : Prm 2 := prm_root 2 1 (by decide) (by decide) (by decide)
  have p3 : Prm 3 := prm_root 3 1 (by decide) (by decide) (by decide)
  have p5 : Prm 5 := prm_root 5 2 (by decide) (by decide) (by decide)
  have p7 : Prm 7 := prm_root 7 2 (by decide) (by decide) (by decide)
  have p11 : Prm 11 := prm_root 11 3 (by decide) (by decide) (by decide)
  have p13 : Prm 13 := prm_root 13 3 (by decide) (by decide) (by decide)
  have p101 : Prm 101 := prm_root 101 10 (by decide) (by decide) (by decide)
  have p1009 : Prm 1009 := prm_root 1009 31 (by decide) (by decide) (by decide +kernel)
  have p99991 : Prm 99991 := prm_root 99991 316 (by decide) (by decide) (by decide +kernel)
  intro q hq
  unfold prmL at hq
  simp only [List.mem_cons, List.not_mem_nil, or_false] at hq
  rcases hq with rfl | rfl | rfl | rfl | rfl | rfl | rfl | rfl | rfl | rfl | rfl | rfl <;> assumption
def prodL (ps : List Int) : Int := ps.foldr (· * ·) 1
theorem prodL_snoc (ps : List Int) (q : Int) : prodL (ps ++ [q]) = prodL ps * q := by
  induction ps with
  | nil => simp [prodL]
  | cons p ps ih =>
    show p * prodL (ps ++ [q]) = p * prodL ps * q
    rw [ih, Int.mul_assoc]
theorem prodL_dvd {ps : List Int} {q : Int} (h : q ∈ ps) : q ∣ prodL ps := by
  induction ps with
  | nil => cases h
  | cons p ps ih =>
    rcases List.mem_cons.mp h with e | e
    · rw [e]; exact ⟨prodL ps, rfl⟩
    · exact Int.dvd_trans (ih e) ⟨p, by show p * prodL ps = _; rw [Int.mul_comm]⟩
theorem prm_one {q : Int} (h : Prm q) : ¬ q ∣ 1 := fun d => by
  have := Int.le_of_dvd (by decide) d
  have := h.1
  omega
theorem prm_in {ps : List Int} (h : ∀ p ∈ ps, Prm p) {q : Int} (hq : Prm q) (d : q ∣ prodL ps) : q ∈ ps := by
  induction ps with
  | nil => exact absurd d (prm_one hq)
  | cons p ps ih =>
    rcases prm_mul hq d with d | d
    · have hp := h p (List.mem_cons_self ..)
      have q0 := hq.1
      rcases hp.2 q (by omega) d with e | e
      · omega
      · rw [e]; exact List.mem_cons_self ..
    · exact List.mem_cons_of_mem _ (ih (fun p hp => h p (List.mem_cons_of_mem _ hp)) d)
/-- the primes of the product are the planted ones -/
theorem allP_some {ps : List Int} (h : ∀ p ∈ ps, Prm p) (x : Int) : AllP (prodL ps) x ↔ ∀ p ∈ ps, p ∣ x :=
  ⟨fun a p hp => a p (h p hp) (prodL_dvd hp), fun a q hq hd => a q (prm_in h hq hd)⟩
end Tw
namespace Tw
open PySem PySem.Spec PyProof.Rows L2
theorem prodL_pos {ps : List Int} (h : ∀ p ∈ ps, 1 ≤ p) : 1 ≤ prodL ps := by
  induction ps with
  | nil => decide
  | cons p ps ih =>
    have h1 := h p (List.mem_cons_self ..)
    have h2 := ih fun q hq => h q (List.mem_cons_of_mem _ hq)
    show 1 ≤ p * prodL ps
    have := Int.mul_le_mul h1 h2 (by decide) (by omega)
    omega
theorem prodL_perm {a b : List Int} (h : a.Perm b) : prodL a = prodL b := by
  induction h with
  | nil => rfl
  | cons x _ ih => show x * prodL _ = x * prodL _; rw [ih]
  | swap x y l => show y * (x * prodL l) = x * (y * prodL l); rw [← Int.mul_assoc, ← Int.mul_assoc, Int.mul_comm x y]
  | trans _ _ i1 i2 => rw [i1, i2]
/-- unlike ones among them: no greater product -/
theorem prodL_sub : ∀ {ns ps : List Int}, ns.Nodup → (∀ x ∈ ns, x ∈ ps) → (∀ p ∈ ps, 1 ≤ p) → prodL ns ≤ prodL ps
  | [], ps, _, _, h => prodL_pos h
  | x :: ns, ps, nd, sub, h => by
    rw [List.nodup_cons] at nd
    have hx := sub x (List.mem_cons_self ..)
    have ih := prodL_sub (ps := ps.erase x) nd.2 (fun y hy => (List.mem_erase_of_ne (show y ≠ x from fun e => nd.1 (by rw [← e]; exact hy))).mpr (sub y (List.mem_cons_of_mem _ hy))) (fun p hp => h p (List.mem_of_mem_erase hp))
    rw [prodL_perm (List.perm_cons_erase hx)]
    show x * prodL ns ≤ x * prodL (ps.erase x)
    exact Int.mul_le_mul_of_nonneg_left ih (by have := h x hx; omega)
theorem prmL_one {q : Int} (h : q ∈ prmL) : 2 ≤ q ∧ q ≤ 99991 := (by decide : ∀ q ∈ prmL, 2 ≤ q ∧ q ≤ 99991) q h
theorem gcd_top {m : Int} (h : 1 ≤ m) : Int.gcd ((m + 1) % m) m = 1 := by
  rw [Int.add_emod, Int.emod_self, Int.zero_add, Int.emod_emod]
  by_cases c : m = 1
  · subst c; rfl
  · rw [Int.emod_eq_of_lt (by decide) (by omega)]
    exact Int.one_gcd
end Tw

/-! Counts in a list of ours; the rounds by them. -/
namespace Tw
open PySem PySem.Spec PyProof.Rows L2
theorem atI_at' {cs : List Int} {x : Int} (x0 : 0 ≤ x) (x1 : x.toNat < cs.length) : atI (cs.map V.int) x = some (.int (at' cs x)) := by
  obtain ⟨n, rfl⟩ := Int.eq_ofNat_of_zero_le x0
  have hn : n < cs.length := by omega
  refine atI_nat ?_
  unfold at'
  rw [List.getElem?_map, List.getD_eq_getElem?_getD, show ((n : Int)).toNat = n by omega, List.getElem?_eq_getElem hn]
  rfl
theorem ixN_at' {cs : List Int} {x : Int} (x0 : 0 ≤ x) (x1 : x.toNat < cs.length) : ixN (cs.map V.int).length x = some x.toNat := by
  obtain ⟨n, rfl⟩ := Int.eq_ofNat_of_zero_le x0
  rw [List.length_map]
  exact ixN_nat (by omega)
theorem set_ints (cs : List Int) (j : Nat) (v : Int) : (cs.map V.int).set j (.int v) = (cs.set j v).map V.int := by rw [List.map_set]
theorem per_next {f : Int → Int} {x : Int} (h : ∃ L, Per f L x) : ∃ L, Per f L (f x) := by
  obtain ⟨L, l0, l1, _⟩ := h
  have e : itr f L (f x) = f x := by rw [itr_one]; exact congrArg f l1
  obtain ⟨M, _, hM⟩ := per_ex L l0 e
  exact ⟨M, hM⟩
theorem per_itr {f : Int → Int} {x : Int} (h : ∃ L, Per f L x) : ∀ n, ∃ L, Per f L (itr f n x)
  | 0 => h
  | n + 1 => per_next (per_itr h n)
theorem alls_succ (i : Nat) : alls ((i : Int) + 1) = alls (i : Int) ++ [(i : Int)] := by
  unfold alls
  rw [show ((i : Int) + 1).toNat = i + 1 by omega, show ((i : Int)).toNat = i by omega, List.range_succ, List.map_append]
  rfl
theorem rep0 {m : Int} : ((List.replicate m.toNat [V.int 0]).flatten) = (List.replicate m.toNat (0 : Int)).map V.int := by
  generalize m.toNat = n
  induction n with
  | zero => rfl
  | succ n ih =>
    rw [List.replicate_succ, List.replicate_succ, List.flatten_cons, ih]
    rfl
theorem at_rep0 {m x : Int} : at' (List.replicate m.toNat (0 : Int)) x = 0 := by
  unfold at'
  rw [List.getD_eq_getElem?_getD, List.getElem?_replicate]
  split <;> rfl
/-- the lengths sorted, each with how many rounds have it -/
theorem Cnt.rdsL {f : Int → Int} {m : Int} {ws ys : List Int} {ks : List Nat} (C : Cnt f ws ks) (all : ∀ L, pcnt f ws L = Nper f m L) (pm : ys.Perm (ks.map fun (k : Nat) => (k : Int))) (up : ys.Pairwise (· ≤ ·)) : Rds f m (ys.map fun L => (L, Cws f ws L.toNat)) := by
  refine C.rds all ?_ ?_
  · have e := pm.map fun L => (L, Cws f ws L.toNat)
    rw [List.map_map] at e
    refine e.trans (List.Perm.of_eq ?_)
    unfold rdD
    exact List.map_congr_left fun k _ => by
      show ((k : Int), Cws f ws ((k : Int)).toNat) = ((k : Int), Cws f ws k)
      rw [show ((k : Int)).toNat = k by omega]
  · have nd : ys.Nodup := by
      refine pm.nodup_iff.mpr ?_
      have n := C.nd
      rw [List.nodup_iff_pairwise_ne] at n ⊢
      rw [List.pairwise_map]
      exact n.imp fun {a b} h z => h (by omega)
    rw [List.nodup_iff_pairwise_ne] at nd
    rw [List.pairwise_map]
    refine (up.and nd).imp fun {a b} z => SrtO.lexB_no.mpr ?_
    have := z.1
    have := z.2
    show ¬ (b < a ∨ b = a ∧ _)
    omega
def pRoundsD (K : PySem.W.Frag) : V → Hp → VK → XK → Prop := fun a H Q _ => ∃ (r : Addr) (t p m : Int), a = .ref r ∧ SqT K H r [.int t, .int p, .int m] ∧ Rule t p m ∧ m ≤ 2000 ∧
  ∀ H' q zs, Same H H' → H q = none → Rds (stp t p m) m zs → H' q = some (.lst ((pairsS zs).map V.str)) → Q (.ref q) H'
end Tw

/-! What a desk tells to its other lines; what it does. -/
namespace Tw
open PySem PySem.Spec PyProof.Rows L2
def roundW : List Nat := [114, 111, 117, 110, 100]
def roundsW : List Nat := [114, 111, 117, 110, 100, 115]
def oneW : List Nat := [111, 110, 101]
def fitsW : List Nat := [102, 105, 116, 115]
def guessW : List Nat := [103, 117, 101, 115, 115]
def settledW : List Nat := [115, 101, 116, 116, 108, 101, 100]
def seenW : List Nat := [115, 101, 101, 110]
def backW : List Nat := [98, 97, 99, 107]
theorem pairL_lt (a b : Int) : ∀ c ∈ pairL a b, c < 1114112 := lt_app (lt_app (numL_lt _) lt_32) (numL_lt _)
theorem noneL_lt : ∀ c ∈ noneL, c < 1114112 := by decide
theorem vL_lt (v : V) : ∀ c ∈ vL v, c < 1114112 := by
  unfold vL
  split
  · exact numL_lt _
  · exact noneL_lt
theorem canAll_strs : ∀ {zs : List Str}, (∀ z ∈ zs, PyData.strOk z = true) → PyData.canLayAll0 (zs.map PyData.str) = true ∧ PyData.depthAll (zs.map PyData.str) = 0
  | [], _ => ⟨rfl, rfl⟩
  | z :: zs, h => by
    obtain ⟨h1, h2⟩ := canAll_strs (zs := zs) fun y hy => h y (List.mem_cons_of_mem _ hy)
    constructor
    · show (PyData.strOk z && PyData.canLayAll0 (zs.map PyData.str)) = true
      rw [h z (List.mem_cons_self ..), h1]
      rfl
    · show max 0 (PyData.depthAll (zs.map PyData.str)) = 0
      rw [h2]
      rfl
theorem shp_strs {zs : List Str} (h : ∀ z ∈ zs, PyData.strOk z = true) : SeqAt.shaped (.list (zs.map PyData.str)) = true := by
  obtain ⟨h1, h2⟩ := canAll_strs h
  show (PyData.canLayAll0 (zs.map PyData.str) && decide (PyData.depthAll (zs.map PyData.str) + 1 ≤ 64)) = true
  rw [h1, h2]
  rfl
theorem pairsS_ok (zs : List (Int × Int)) : ∀ z ∈ pairsS zs, PyData.strOk z = true := fun z hz => by
  obtain ⟨y, _, rfl⟩ := List.mem_map.mp hz
  exact strOk_S (pairL_lt _ _)
theorem Desked.get {P1 P2 p a C dx : Addr} {fs : List (Str × V)} {H H' : Hp} {o : HO} (g : Desked P1 P2 p H H') (t1 : GxR.TabG H P1) (t2 : GxR.TabG H P2) (hp : H p = some (.ins C dx fs)) (e : H a = some o) (n : ∀ ps, o ≠ .tbl ps) (n2 : ∀ C dx fs, o ≠ .ins C dx fs) : H' a = some o :=
  g.2.2 _ _ (tabG_ne t1 e n) (tabG_ne t2 e n) (fun z => by rw [z, hp] at e; exact n2 _ _ _ (Option.some.inj e).symm) e
theorem desked_frm {P1 P2 l : Addr} {H H1 H2 : Hp} {ys : List V} (g : Grow P1 P2 H H1) (f : Frm l H1 H2) (hl : H1 l = some (.lst ys)) : Desked P1 P2 l H H2 := by
  refine ⟨?_, ?_, fun b o n1 n2 n3 e => f _ _ n3 (g.keep _ _ n1 n2 e)⟩
  · obtain ⟨ps, e, z⟩ := g.t1
    exact ⟨ps, f _ _ (fun y => by rw [y, hl] at e; cases e) e, z⟩
  · obtain ⟨ps, e, z⟩ := g.t2
    exact ⟨ps, f _ _ (fun y => by rw [y, hl] at e; cases e) e, z⟩
section
variable {P : Program} {w : World} {K : PySem.W.Frag} {mg : Str → Option Value} {base : Heap} {C CK P1 P2 dL dR dA : Addr}
theorem round_no (r : List Nat) : Txt.startswith (SX.S (roundW ++ 32 :: r)) (Str.ofString "rule ") = false := by
  unfold Txt.startswith
  rw [Bool.and_eq_false_iff]
  right
  rw [StrLaws.subAt_eq]
  show (((roundW ++ 32 :: r).toArray.toList.drop 0).take _ == _) = false
  rw [List.toList_toArray]
  rfl
theorem seen_no (r : List Nat) : Txt.startswith (SX.S (seenW ++ 32 :: r)) (Str.ofString "rule ") = false := by
  unfold Txt.startswith
  rw [Bool.and_eq_false_iff]
  right
  rw [StrLaws.subAt_eq]
  show (((seenW ++ 32 :: r).toArray.toList.drop 0).take _ == _) = false
  rw [List.toList_toArray]
  rfl
theorem wds_two {a b : List Nat} (ha : 32 ∉ a) (hb : 32 ∉ b) : wds (a ++ 32 :: b) = [a, b] := by
  have e : a ++ 32 :: b = TL.joinL [32] [a, b] := by
    simp [TL.joinL]
  unfold wds
  rw [e]
  refine SX.spl_join (by simp) fun q hq => ?_
  simp only [List.mem_cons, List.not_mem_nil, or_false] at hq
  rcases hq with rfl | rfl
  · exact ha
  · exact hb
/-- a list of texts told -/
def AskRs (P : Program) (w : World) (K : PySem.W.Frag) (mg : Str → Option Value) (base : Heap) (C CK P1 P2 dL dR dA : Addr) (t pl m : Int) (xs : List Int) (line : List Nat) : Prop := ∀ (H : Hp) (Q : VK) (E : XK) (p u k l : Addr), DeskAt C CK H p u k l t pl m xs → GxR.TabG H P1 → GxR.TabG H P2 →
  (∀ H' q zs, Grow P1 P2 H H' → H q = none → Rds (stp t pl m) m zs → H' q = some (.lst ((pairsS zs).map V.str)) → Q (.ref q) H') → pAsk P w K mg base C CK P1 P2 dL dR dA (.ref p) (.str (SX.S line)) H Q E
/-- the row changes, nothing is told -/
def AskDo (P : Program) (w : World) (K : PySem.W.Frag) (mg : Str → Option Value) (base : Heap) (C CK P1 P2 dL dR dA : Addr) (t pl m : Int) (xs ys : List Int) (line : List Nat) : Prop := ∀ (H : Hp) (Q : VK) (E : XK) (p u k l : Addr), DeskAt C CK H p u k l t pl m xs → GxR.TabG H P1 → GxR.TabG H P2 →
  (∀ H' q, Desked P1 P2 l H H' → DeskAt C CK H' p u k l t pl m ys → H q = none → q ≠ l → H' q = some (.lst []) → Q (.ref q) H') → pAsk P w K mg base C CK P1 P2 dL dR dA (.ref p) (.str (SX.S line)) H Q E
theorem ask_round {CA CN : Addr} {t pl m n : Int} {xs : List Int} {tL fR fT : Addr} (R : Rule t pl m) (mM : m ≤ 2000) (n0 : 0 ≤ n) (n1 : n < m)
    (eL : Ent K dL (SX.S roundW) (.ref tL)) (eT : KTup K tL [.str "START"]) (eR : Ent K dR "START" (.ref fR)) (h_rn : HeldX P w K mg base (L2.CX P w) 4 fR (sp1 (pRdNum P1 P2))) (eA : Ent K dA (SX.S roundW) (.ref fT)) (h_tn : HeldX P w K mg base (L2.CX P w) 11 fT (sp2 (pTellRound C CK CA CN P1 P2))) :
    AskOk P w K mg base C CK P1 P2 dL dR dA t pl m xs (roundW ++ 32 :: TL.numL n.toNat) (pairL (rndT t pl m n) (rndL t pl m n)) := by
  refine ⟨strOk_S (pairL_lt _ _), ?_⟩
  intro H Q E p u k l hd hT1 hT2 q
  have b2 := R.b2
  have kl : (TL.numL n.toNat).length ≤ 13 := numL13 (by omega)
  have hd' := hd
  obtain ⟨⟨dx, hp⟩, hu, hk⟩ := hd
  refine ⟨p, dx, u, k, _, rfl, rfl, by rw [List.length_append, List.length_cons]; show 5 + _ ≤ 600; omega, hp, hT1, hT2, .inr ⟨roundW, [TL.numL n.toNat], ["START"], [n], tL, fT, _, round_no _, wds_two (by decide) (numL_no32 _), eL, eT, rfl, rfl, by show 1 ≤ 9; decide, (fun i z w' v h1 h2 h3 => ?_), eA, h_tn, fun H1 nl g1 hnl => ?_⟩⟩
  · match i, h1, h2, h3 with
    | 0, h1, h2, h3 =>
      cases h1
      cases h2
      cases h3
      refine ⟨fR, _, eR, h_rn, fun H0 Q0 E0' t1 t2 go => ⟨_, rfl, n.toNat, rfl, by omega, t1, t2, fun H' g => ?_⟩⟩
      rw [Int.toNat_of_nonneg n0]
      exact go H' g
    | n + 1, h1, _, _ => cases h1
  · have D1 := hd'.grow hT1 hT2 g1
    exact ⟨_, _, rfl, p, u, k, l, nl, t, pl, m, n, xs, rfl, rfl, D1, R, hnl, g1.t1, g1.t2, fun z => absurd mM (by omega), fun _ z => absurd ⟨n0, n1⟩ z, fun _ _ _ H2 q2 g2 nq2 hq2 => q _ q2 (g1.trans g2) (Grow.freeG g1 hT1 hT2 nq2) hq2⟩
theorem ask_rounds {CA : Addr} {t pl m : Int} {xs : List Int} {tL fT : Addr} (R : Rule t pl m) (mM : m ≤ 2000) (eL : Ent K dL (SX.S roundsW) (.ref tL)) (eT : KTup K tL []) (eA : Ent K dA (SX.S roundsW) (.ref fT)) (h_tn : HeldX P w K mg base (L2.CX P w) 11 fT (sp2 (pTellRounds C CK CA P1 P2))) :
    AskRs P w K mg base C CK P1 P2 dL dR dA t pl m xs roundsW := by
  intro H Q E p u k l hd hT1 hT2 q
  have hd' := hd
  obtain ⟨⟨dx, hp⟩, hu, hk⟩ := hd
  refine ⟨p, dx, u, k, _, rfl, rfl, by decide, hp, hT1, hT2, .inr ⟨roundsW, [], [], [], tL, fT, _, by decide, wds_one (by decide), eL, eT, rfl, rfl, by show 0 ≤ 9; decide, (fun i z w' v h1 h2 h3 => by cases h1), eA, h_tn, fun H1 nl g1 hnl => ?_⟩⟩
  have D1 := hd'.grow hT1 hT2 g1
  exact ⟨_, _, rfl, p, u, k, l, t, pl, m, xs, rfl, D1, R, g1.t1, g1.t2, fun z => absurd mM (by omega), fun _ H2 q2 zs g2 nq2 rd hq2 => q _ q2 zs (g1.trans g2) (Grow.freeG g1 hT1 hT2 nq2) rd hq2⟩
theorem ask_one {t pl m : Int} {xs : List Int} {tL fT : Addr} (R : Rule t pl m) (b : Bool) (hb : b = true ↔ ClsR t pl m) (eL : Ent K dL (SX.S oneW) (.ref tL)) (eT : KTup K tL []) (eA : Ent K dA (SX.S oneW) (.ref fT)) (h_tn : HeldX P w K mg base (L2.CX P w) 11 fT (sp2 (pTellOne C CK P1 P2))) :
    AskOk P w K mg base C CK P1 P2 dL dR dA t pl m xs oneW (if b = true then yesL else noL) := by
  refine ⟨strOk_S (by cases b <;> decide), ?_⟩
  intro H Q E p u k l hd hT1 hT2 q
  have hd' := hd
  obtain ⟨⟨dx, hp⟩, hu, hk⟩ := hd
  refine ⟨p, dx, u, k, _, rfl, rfl, by decide, hp, hT1, hT2, .inr ⟨oneW, [], [], [], tL, fT, _, by decide, wds_one (by decide), eL, eT, rfl, rfl, by show 0 ≤ 9; decide, (fun i z w' v h1 h2 h3 => by cases h1), eA, h_tn, fun H1 nl g1 hnl => ?_⟩⟩
  have D1 := hd'.grow hT1 hT2 g1
  exact ⟨_, _, rfl, p, u, k, l, t, pl, m, xs, rfl, D1, R, g1.t1, g1.t2, fun b' hb' H2 q2 g2 nq2 hq2 => q _ q2 (g1.trans g2) (Grow.freeG g1 hT1 hT2 nq2) (by rw [iff_eq hb hb']; exact hq2)⟩
theorem ask_fits {t pl m : Int} {xs : List Int} {tL fT : Addr} (R : Rule t pl m) (xl : xs.length ≤ 60) (rg : Rng m xs) (ft : Fits m xs) {due : List Nat} (h1 : xs.length < 2 → due = anyL) (h2 : ∀ ll s, 2 ≤ xs.length → FitR m xs (xs.length - 2) (some (ll, s)) → due = pairL ll s) (eL : Ent K dL (SX.S fitsW) (.ref tL)) (eT : KTup K tL []) (eA : Ent K dA (SX.S fitsW) (.ref fT)) (h_tn : HeldX P w K mg base (L2.CX P w) 11 fT (sp2 (pTellFits C CK P1 P2))) (ok : ∀ c ∈ due, c < 1114112) :
    AskOk P w K mg base C CK P1 P2 dL dR dA t pl m xs fitsW due := by
  refine ⟨strOk_S ok, ?_⟩
  intro H Q E p u k l hd hT1 hT2 q
  have hd' := hd
  obtain ⟨⟨dx, hp⟩, hu, hk⟩ := hd
  refine ⟨p, dx, u, k, _, rfl, rfl, by decide, hp, hT1, hT2, .inr ⟨fitsW, [], [], [], tL, fT, _, by decide, wds_one (by decide), eL, eT, rfl, rfl, by show 0 ≤ 9; decide, (fun i z w' v h1 h2 h3 => by cases h1), eA, h_tn, fun H1 nl g1 hnl => ?_⟩⟩
  have D1 := hd'.grow hT1 hT2 g1
  refine ⟨_, _, rfl, p, u, k, l, t, pl, m, xs, rfl, D1, R, xl, rg, ft, g1.t1, g1.t2, fun z H2 q2 g2 nq2 hq2 => ?_, fun z ll s fo H2 q2 g2 nq2 hq2 => ?_⟩
  · exact q _ q2 (g1.trans g2) (Grow.freeG g1 hT1 hT2 nq2) (by rw [h1 z]; exact hq2)
  · exact q _ q2 (g1.trans g2) (Grow.freeG g1 hT1 hT2 nq2) (by rw [h2 ll s z fo]; exact hq2)
theorem ask_guess {t pl m : Int} {xs : List Int} {tL fT : Addr} (R : Rule t pl m) (xl : xs.length ≤ 60) (rg : Rng m xs) (ft : Fits m xs) {due : List Nat} (h1 : ∀ v, GssN m xs v → due = vL v) (eL : Ent K dL (SX.S guessW) (.ref tL)) (eT : KTup K tL []) (eA : Ent K dA (SX.S guessW) (.ref fT)) (h_tn : HeldX P w K mg base (L2.CX P w) 11 fT (sp2 (pTellGuess C CK P1 P2))) (ok : ∀ c ∈ due, c < 1114112) :
    AskOk P w K mg base C CK P1 P2 dL dR dA t pl m xs guessW due := by
  refine ⟨strOk_S ok, ?_⟩
  intro H Q E p u k l hd hT1 hT2 q
  have hd' := hd
  obtain ⟨⟨dx, hp⟩, hu, hk⟩ := hd
  refine ⟨p, dx, u, k, _, rfl, rfl, by decide, hp, hT1, hT2, .inr ⟨guessW, [], [], [], tL, fT, _, by decide, wds_one (by decide), eL, eT, rfl, rfl, by show 0 ≤ 9; decide, (fun i z w' v h1 h2 h3 => by cases h1), eA, h_tn, fun H1 nl g1 hnl => ?_⟩⟩
  have D1 := hd'.grow hT1 hT2 g1
  exact ⟨_, _, rfl, p, u, k, l, t, pl, m, xs, rfl, D1, R, xl, rg, ft, g1.t1, g1.t2, fun v gv H2 q2 g2 nq2 hq2 => q _ q2 (g1.trans g2) (Grow.freeG g1 hT1 hT2 nq2) (by rw [h1 v gv]; exact hq2)⟩
theorem ask_settled {t pl m : Int} {xs : List Int} {tL fT : Addr} (R : Rule t pl m) (xl : xs.length ≤ 60) (rg : Rng m xs) {due : List Nat} (h1 : xs.length < 2 → due = noneL) (h2 : ∀ v, 2 ≤ xs.length → Sett m xs v → due = vL v) (eL : Ent K dL (SX.S settledW) (.ref tL)) (eT : KTup K tL []) (eA : Ent K dA (SX.S settledW) (.ref fT)) (h_tn : HeldX P w K mg base (L2.CX P w) 11 fT (sp2 (pTellSettled C CK P1 P2))) (ok : ∀ c ∈ due, c < 1114112) :
    AskOk P w K mg base C CK P1 P2 dL dR dA t pl m xs settledW due := by
  refine ⟨strOk_S ok, ?_⟩
  intro H Q E p u k l hd hT1 hT2 q
  have hd' := hd
  obtain ⟨⟨dx, hp⟩, hu, hk⟩ := hd
  refine ⟨p, dx, u, k, _, rfl, rfl, by decide, hp, hT1, hT2, .inr ⟨settledW, [], [], [], tL, fT, _, by decide, wds_one (by decide), eL, eT, rfl, rfl, by show 0 ≤ 9; decide, (fun i z w' v h1 h2 h3 => by cases h1), eA, h_tn, fun H1 nl g1 hnl => ?_⟩⟩
  have D1 := hd'.grow hT1 hT2 g1
  refine ⟨_, _, rfl, p, u, k, l, t, pl, m, xs, rfl, D1, R, xl, rg, g1.t1, g1.t2, fun z H2 q2 g2 nq2 hq2 => ?_, fun z v sv H2 q2 g2 nq2 hq2 => ?_⟩
  · exact q _ q2 (g1.trans g2) (Grow.freeG g1 hT1 hT2 nq2) (by rw [h1 z]; exact hq2)
  · exact q _ q2 (g1.trans g2) (Grow.freeG g1 hT1 hT2 nq2) (by rw [h2 v z sv]; exact hq2)
theorem ask_seen {CA CN CF : Addr} {t pl m n : Int} {xs : List Int} {tL fR fT : Addr} (R : Rule t pl m) (n0 : 0 ≤ n) (n1 : n < m) (xl : xs.length < 60) (rg : Rng m xs) (ft : Fits m (xs ++ [n]))
    (eL : Ent K dL (SX.S seenW) (.ref tL)) (eT : KTup K tL [.str "NUMBER"]) (eR : Ent K dR "NUMBER" (.ref fR)) (h_rn : HeldX P w K mg base (L2.CX P w) 4 fR (sp1 (pRdNum P1 P2))) (eA : Ent K dA (SX.S seenW) (.ref fT)) (h_tn : HeldX P w K mg base (L2.CX P w) 11 fT (sp2 (pDoSeen C CK CA CN CF))) :
    AskDo P w K mg base C CK P1 P2 dL dR dA t pl m xs (xs ++ [n]) (seenW ++ 32 :: TL.numL n.toNat) := by
  intro H Q E p u k l hd hT1 hT2 q
  have b2 := R.b2
  have kl : (TL.numL n.toNat).length ≤ 13 := numL13 (by omega)
  have hd' := hd
  obtain ⟨⟨dx, hp⟩, hu, hk⟩ := hd
  refine ⟨p, dx, u, k, _, rfl, rfl, by rw [List.length_append, List.length_cons]; show 4 + _ ≤ 600; omega, hp, hT1, hT2, .inr ⟨seenW, [TL.numL n.toNat], ["NUMBER"], [n], tL, fT, _, seen_no _, wds_two (by decide) (numL_no32 _), eL, eT, rfl, rfl, by show 1 ≤ 9; decide, (fun i z w' v h1 h2 h3 => ?_), eA, h_tn, fun H1 nl g1 hnl => ?_⟩⟩
  · match i, h1, h2, h3 with
    | 0, h1, h2, h3 =>
      cases h1
      cases h2
      cases h3
      refine ⟨fR, _, eR, h_rn, fun H0 Q0 E0' t1 t2 go => ⟨_, rfl, n.toNat, rfl, by omega, t1, t2, fun H' g => ?_⟩⟩
      rw [Int.toNat_of_nonneg n0]
      exact go H' g
    | n + 1, h1, _, _ => cases h1
  · have D1 := hd'.grow hT1 hT2 g1
    exact ⟨_, _, rfl, p, u, k, l, nl, t, pl, m, n, xs, rfl, rfl, D1, R, hnl, by omega, rg, fun z => by omega, fun _ z => absurd ⟨n0, n1⟩ z, fun _ _ z => absurd ft z, fun _ _ _ H2 q2 f2 D2 nq2 hq2 => q _ q2 (desked_frm g1 f2 D1.2.2.2) D2 (Grow.freeG g1 hT1 hT2 nq2) (fun z => by have := D1.2.2.2; rw [← z, nq2] at this; cases this) hq2⟩
theorem ask_back {CF : Addr} {t pl m : Int} {xs : List Int} {tL fT : Addr} (xl : xs.length ≤ 60) (ne : xs ≠ []) (eL : Ent K dL (SX.S backW) (.ref tL)) (eT : KTup K tL []) (eA : Ent K dA (SX.S backW) (.ref fT)) (h_tn : HeldX P w K mg base (L2.CX P w) 11 fT (sp2 (pDoBack C CK CF))) :
    AskDo P w K mg base C CK P1 P2 dL dR dA t pl m xs xs.dropLast backW := by
  intro H Q E p u k l hd hT1 hT2 q
  have hd' := hd
  obtain ⟨⟨dx, hp⟩, hu, hk⟩ := hd
  refine ⟨p, dx, u, k, _, rfl, rfl, by decide, hp, hT1, hT2, .inr ⟨backW, [], [], [], tL, fT, _, by decide, wds_one (by decide), eL, eT, rfl, rfl, by show 0 ≤ 9; decide, (fun i z w' v h1 h2 h3 => by cases h1), eA, h_tn, fun H1 nl g1 hnl => ?_⟩⟩
  have D1 := hd'.grow hT1 hT2 g1
  exact ⟨_, _, rfl, p, u, k, l, t, pl, m, xs, rfl, D1, xl, fun z => absurd z ne, fun _ H2 q2 f2 D2 nq2 hq2 => q _ q2 (desked_frm g1 f2 D1.2.2.2) D2 (Grow.freeG g1 hT1 hT2 nq2) (fun z => by have := D1.2.2.2; rw [← z, nq2] at this; cases this) hq2⟩
end
end Tw

/-! Lists of texts compared; pairs as texts. -/
namespace Tw
open PySem PySem.Spec PyProof.Rows L2
theorem eqvAll_strs : ∀ as bs : List Str, PyData.eqvAll (as.map PyData.str) (bs.map PyData.str) = decide (as = bs)
  | [], [] => by simp [PyData.eqvAll]
  | [], b :: bs => by simp [PyData.eqvAll]
  | a :: as, [] => by simp [PyData.eqvAll]
  | a :: as, b :: bs => by
    rw [List.map_cons, List.map_cons, PyData.eqvAll, eqvAll_strs as bs]
    by_cases h : a = b
    · subst h
      by_cases h2 : as = bs <;> simp [PyData.eqv, h2]
    · simp [PyData.eqv, h]
theorem eqv_lstrs (as bs : List Str) : PyData.eqv (.list (as.map PyData.str)) (.list (bs.map PyData.str)) = decide (as = bs) := by
  rw [PyData.eqv, eqvAll_strs]
theorem S_inj {a b : List Nat} (h : SX.S a = SX.S b) : a = b := by
  have : a.toArray = b.toArray := by
    unfold SX.S at h
    injection h
  exact List.toArray_inj this
theorem pairL_inj {a b c d : Int} (h : pairL a b = pairL c d) (a0 : 0 ≤ a) (b0 : 0 ≤ b) (c0 : 0 ≤ c) (d0 : 0 ≤ d) : a = c ∧ b = d := by
  have e1 : wds (pairL a b) = [TL.numL a.toNat, TL.numL b.toNat] := by
    have : pairL a b = TL.numL a.toNat ++ 32 :: TL.numL b.toNat := by simp [pairL]
    rw [this]
    exact wds_two (numL_no32 _) (numL_no32 _)
  have e2 : wds (pairL c d) = [TL.numL c.toNat, TL.numL d.toNat] := by
    have : pairL c d = TL.numL c.toNat ++ 32 :: TL.numL d.toNat := by simp [pairL]
    rw [this]
    exact wds_two (numL_no32 _) (numL_no32 _)
  rw [h, e2] at e1
  simp only [List.cons.injEq, and_true] at e1
  have h1 := TL.numL_inj e1.1
  have h2 := TL.numL_inj e1.2
  omega
/-- one round of it all, by its text -/
theorem one_text {t p m : Int} {zs : List (Int × Int)} (m0 : 0 < m) (h : Rds (stp t p m) m zs) : ClsR t p m ↔ pairsS zs = [SX.S (pairL m 1)] := by
  rw [one_rds m0 h]
  constructor
  · rintro rfl
    rfl
  · intro e
    match zs, e, h with
    | [z], e, h =>
      have e1 : SX.S (pairL z.1 z.2) = SX.S (pairL m 1) := (List.cons.inj e).1
      have bd := rds_bd m0 h (z := z) (List.mem_cons_self ..)
      obtain ⟨h1, h2⟩ := pairL_inj (S_inj e1) bd.1.1 bd.2.1 (by omega) (by decide)
      rw [← h1, ← h2]
    | [], e, _ => exact absurd (congrArg List.length e) (by simp [pairsS])
    | _ :: _ :: _, e, _ => exact absurd (congrArg List.length e) (by simp [pairsS])
end Tw
namespace Tw
open PySem PySem.Spec PyProof.Rows L2
theorem noyes (b : Bool) : atI [V.str (Str.ofString "no"), V.str (Str.ofString "yes")] (if b = true then (1 : Int) else 0) = some (.str (SX.S (if b = true then yesL else noL))) := by
  rw [yes_S, no_S]
  cases b <;> rfl
theorem one_eq {t p m : Int} {zs : List (Int × Int)} {b : Bool} (m0 : 0 < m) (h : Rds (stp t p m) m zs) (hb : b = true ↔ ClsR t p m) : decide (pairsS zs = [SX.S (TL.numL m.toNat ++ [32, 49])]) = b := by
  have e : pairL m 1 = TL.numL m.toNat ++ [32, 49] := by
    have : TL.numL (1 : Int).toNat = [49] := by decide +kernel
    unfold pairL
    rw [this, List.append_assoc]
    rfl
  have k := one_text m0 h
  rw [e, ← hb] at k
  cases b with
  | true => exact decide_eq_true (k.mp rfl)
  | false => exact decide_eq_false fun z => by cases k.mpr z
end Tw

/-! Fits by congruences solved one after the other; what is due of a row seen. -/
namespace Tw
open PySem PySem.Spec PyProof.Rows L2
/-- the least x with a x = c by m, or none -/
def pSolved : V → V → V → Hp → VK → XK → Prop := fun a b c H Q _ => ∃ (x y m : Int), a = .int x ∧ b = .int y ∧ c = .int m ∧ 0 ≤ x ∧ x < m ∧ 0 ≤ y ∧ y < m ∧ m ≤ 1000000000000 ∧
  ((∀ z, ¬ m ∣ x * z - y) → ∀ H', Same H H' → Q .non H') ∧ (∀ H' q z, Same H H' → H q = none → H' q = some (.tup [.int z, .int (m / (Int.gcd x m : Nat))]) → 0 ≤ z → z < m / (Int.gcd x m : Nat) → m ∣ x * z - y → Q (.ref q) H')
def pFitD (K : PySem.W.Frag) : V → V → Hp → VK → XK → Prop := fun a b H Q _ => ∃ (r : Addr) (xs : List Int) (m : Int), a = .ref r ∧ b = .int m ∧ SqL K H r (xs.map V.int) ∧ 1 ≤ m ∧ m ≤ 1000000000000 ∧ Rng m xs ∧ xs.length ≤ 1000 ∧
  (FitR m xs (xs.length - 2) none → ∀ H', Same H H' → Q .non H') ∧ (∀ H' q l s, Same H H' → H q = none → H' q = some (.tup [.int l, .int s]) → FitR m xs (xs.length - 2) (some (l, s)) → Q (.ref q) H')
theorem atI_g {cs : List Int} {x : Int} (x0 : 0 ≤ x) (x1 : x < cs.length) : atI (cs.map V.int) x = some (.int (cs.getD x.toNat 0)) := by
  obtain ⟨n, rfl⟩ := Int.eq_ofNat_of_zero_le x0
  have hn : n < cs.length := by omega
  refine atI_nat ?_
  rw [List.getElem?_map, List.getD_eq_getElem?_getD, show ((n : Int)).toNat = n by omega, List.getElem?_eq_getElem hn]
  rfl
theorem at_last2 {xs : List Int} (h : 2 ≤ xs.length) : atI (xs.map V.int) (-2) = some (.int (xs.getD (xs.length - 2) 0)) := by
  have e : ixN (xs.map V.int).length (-2) = some (xs.length - 2) := by
    unfold ixN
    rw [List.length_map, if_neg (by decide), if_pos (by omega)]
    congr 1
    omega
  unfold atI
  rw [e]
  show (xs.map V.int)[xs.length - 2]? = _
  rw [List.getElem?_map, List.getD_eq_getElem?_getD, List.getElem?_eq_getElem (by omega)]
  rfl
theorem cut_lastN (xs : List Int) : cutV (xs.map V.int) none (some (-1)) = xs.dropLast.map V.int := by
  unfold cutV
  rw [HT.sIx_none, List.length_map]
  have e : HT.sIx xs.length xs.length (some (-1)) = xs.length - 1 := by
    show (if (-1 : Int) < 0 then ((-1 : Int) + (xs.length : Int)).toNat else min (-1 : Int).toNat xs.length) = _
    rw [if_pos (by decide)]
    omega
  rw [e, List.drop_zero, List.dropLast_eq_take, List.map_take, Nat.sub_zero]
/-- a row of four to sixty numbers at q -/
def RowOk (H : Hp) (q : Addr) : Prop := ∃ zs : List Int, H q = some (.tup (zs.map V.int)) ∧ 4 ≤ zs.length ∧ zs.length ≤ 60
theorem solve_iff {m l s g h c : Int} : m ∣ (g % m * s % m) * c - (h % m - g % m * l) % m ↔ m ∣ (l + c * s) * g - h := by
  have h1 := Int.mul_ediv_add_emod g m
  have h2 := Int.mul_ediv_add_emod (g % m * s) m
  have h3 := Int.mul_ediv_add_emod h m
  have h4 := Int.mul_ediv_add_emod (h % m - g % m * l) m
  have e1 : g % m = g - m * (g / m) := by omega
  have e2 : g % m * s % m = g % m * s - m * (g % m * s / m) := by omega
  have e3 : h % m = h - m * (h / m) := by omega
  have e4 : (h % m - g % m * l) % m = h % m - g % m * l - m * ((h % m - g % m * l) / m) := by omega
  rw [e4, e2]
  generalize g % m * s / m = a2 at *
  generalize (h % m - g % m * l) / m = a4 at *
  rw [e1, e3]
  generalize g / m = a1
  generalize h / m = a3
  have e : ((g - m * a1) * s - m * a2) * c - (h - m * a3 - (g - m * a1) * l - m * a4) = (l + c * s) * g - h - m * (a1 * s * c + a2 * c - a3 + a1 * l - a4) := by grind
  rw [e]
  constructor
  · intro d
    have := Int.dvd_add d (Int.dvd_mul_right m (a1 * s * c + a2 * c - a3 + a1 * l - a4))
    rw [Int.sub_add_cancel] at this
    exact this
  · exact fun d => Int.dvd_sub d (Int.dvd_mul_right _ _)
theorem solve_none {m l s : Int} {xs : List Int} {k : Nat} (F : FitR m xs k (some (l, s))) (h : ∀ z, ¬ m ∣ (gat xs k % m * s % m) * z - (gat xs (k + 1) % m - gat xs k % m * l) % m) : FitR m xs (k + 1) none := fun t ht => by
  obtain ⟨a, b⟩ := fitU_succ.mp ht
  obtain ⟨c, hc⟩ := (F.2.2.2.2 t).mp a
  rw [show t = l + c * s by rw [Int.mul_comm c s, ← hc]; omega] at b
  exact h c (solve_iff.mpr b)
theorem solve_some {m l s z : Int} {xs : List Int} {k : Nat} (m0 : 0 < m) (F : FitR m xs k (some (l, s))) (z0 : 0 ≤ z) (z1 : z < m / (Int.gcd (gat xs k % m * s % m) m : Nat)) (h : m ∣ (gat xs k % m * s % m) * z - (gat xs (k + 1) % m - gat xs k % m * l) % m) :
    FitR m xs (k + 1) (some (l + s * z, s * (m / (Int.gcd (gat xs k % m * s % m) m : Nat)))) := by
  have e : gat xs k % m * s % m = s * gat xs k % m := by rw [Int.mul_comm, Int.mul_emod, Int.emod_emod, ← Int.mul_emod]
  rw [e] at z1
  have h2 := cond_count.mp (solve_iff.mp h)
  have B : Bef (s * gat xs k % m) (l * gat xs k % m) m (gat xs (k + 1) % m) z := by
    refine ⟨z0, z1, ?_⟩
    have := Int.emod_eq_emod_iff_emod_sub_eq_zero.mpr h2
    rw [Int.emod_emod] at this
    exact this
  have R := fit_some m0 F B
  rw [e, Int.mul_comm s z, Int.mul_comm s]
  exact R
theorem gcd_dv {s m : Int} (s0 : 0 < s) (h : s ∣ m) : ((Int.gcd s m : Nat) : Int) = s := Int.dvd_antisymm (by omega) (by omega) (Int.gcd_dvd_left ..) (Int.dvd_coe_gcd (Int.dvd_refl _) h)
/-- the number behind, from the last two -/
theorem nxB_apart {m t : Int} {xs : List Int} (m0 : 0 < m) (rg : Rng m xs) (h : 2 ≤ xs.length) (F : FitU m xs (xs.length - 2) t) : nxB m xs t = (xs.getD (xs.length - 1) 0 + t * (xs.getD (xs.length - 1) 0 - xs.getD (xs.length - 2) 0)) % m := by
  have st := (step_iff m0 rg t (xs.length - 2)).mpr F (xs.length - 2) (by omega)
  rw [show xs.length - 2 + 1 = xs.length - 1 by omega] at st
  unfold nxB
  have d := dvd_of_mod_eq st
  obtain ⟨c, hc⟩ := d
  refine Int.emod_eq_emod_iff_emod_sub_eq_zero.mpr (Int.emod_eq_zero_of_dvd ⟨c, ?_⟩)
  rw [← hc]
  grind
theorem beh_apart {m l s : Int} {xs : List Int} (m0 : 0 < m) (rg : Rng m xs) (h : 2 ≤ xs.length) (F : FitR m xs (xs.length - 2) (some (l, s))) : nxB m xs l = nxB m xs (l + s) ↔ s * (xs.getD (xs.length - 1) 0 - xs.getD (xs.length - 2) 0) % m = 0 := by
  have F1 := fitR_in F 1
  rw [Int.one_mul] at F1
  rw [nxB_apart m0 rg h (fitR_l F), nxB_apart m0 rg h F1, Int.emod_eq_emod_iff_emod_sub_eq_zero]
  have e : xs.getD (xs.length - 1) 0 + l * (xs.getD (xs.length - 1) 0 - xs.getD (xs.length - 2) 0) - (xs.getD (xs.length - 1) 0 + (l + s) * (xs.getD (xs.length - 1) 0 - xs.getD (xs.length - 2) 0)) = -(s * (xs.getD (xs.length - 1) 0 - xs.getD (xs.length - 2) 0)) := by grind
  rw [e, ← Int.dvd_iff_emod_eq_zero, ← Int.dvd_iff_emod_eq_zero, Int.dvd_neg]
theorem gssN_uniq {m : Int} {xs : List Int} {u v : V} (a : GssN m xs u) (b : GssN m xs v) : u = v := by
  rcases a with ⟨h, rfl⟩ | ⟨h, l, s, F, rfl⟩
  · rcases b with ⟨_, rfl⟩ | ⟨h2, _⟩
    · rfl
    · omega
  · rcases b with ⟨h2, _⟩ | ⟨_, l', s', F', rfl⟩
    · omega
    · cases F.uniq F'
      rfl
/-- by what the row is settled, rows of none and one too -/
def SettN (m : Int) (xs : List Int) (v : V) : Prop := (xs.length < 2 ∧ v = .non) ∨ (2 ≤ xs.length ∧ Sett m xs v)
/-- a number that is told, or none -/
def NumV (v : V) : Prop := v = .non ∨ ∃ z, v = .int z ∧ 0 ≤ z ∧ z ≤ 1000000000000
theorem NumV.len {v : V} (h : NumV v) : (vL v).length ≤ 13 := by
  rcases h with rfl | ⟨z, rfl, z0, z1⟩
  · decide
  · exact numL13 z1
def pGuessD (K : PySem.W.Frag) : V → V → Hp → VK → XK → Prop := fun a b H Q _ => ∃ (r : Addr) (xs : List Int) (m : Int), a = .ref r ∧ b = .int m ∧ SqL K H r (xs.map V.int) ∧ 1 ≤ m ∧ m ≤ 1000000000000 ∧ Rng m xs ∧ xs.length ≤ 1000 ∧ Fits m xs ∧ ∀ H' v, Same H H' → GssN m xs v → NumV v → Q (.str (SX.S (vL v))) H'
def pSettD (K : PySem.W.Frag) : V → V → Hp → VK → XK → Prop := fun a b H Q _ => ∃ (r : Addr) (xs : List Int) (m : Int), a = .ref r ∧ b = .int m ∧ SqL K H r (xs.map V.int) ∧ 1 ≤ m ∧ m ≤ 1000000000000 ∧ Rng m xs ∧ xs.length ≤ 1000 ∧ Fits m xs ∧ ∀ H' v, Same H H' → SettN m xs v → NumV v → Q (.str (SX.S (vL v))) H'
/-- the text of what fits -/
def FitL (m : Int) (xs : List Int) (due : List Nat) : Prop := (xs.length < 2 ∧ due = anyL) ∨ (2 ≤ xs.length ∧ ∃ l s, FitR m xs (xs.length - 2) (some (l, s)) ∧ due = pairL l s)
/-- lines with what is due, a list each -/
def DuesL (H : Hp) (DU : Addr) (es : List (Addr × Addr × List Nat × List Nat)) : Prop := H DU = some (.lst (es.map fun e => V.ref e.1)) ∧ ∀ e ∈ es, H e.1 = some (.lst [.str (SX.S e.2.2.1), .ref e.2.1]) ∧ H e.2.1 = some (.lst [.str (SX.S e.2.2.2)])
theorem DuesL.same {H H' : Hp} {DU : Addr} {es : List (Addr × Addr × List Nat × List Nat)} (h : DuesL H DU es) (s : Same H H') : DuesL H' DU es := ⟨s _ _ h.1, fun e he => ⟨s _ _ (h.2 e he).1, s _ _ (h.2 e he).2⟩⟩
/-- what is due of a row -/
def DueW (m : Int) (xs : List Int) (line due : List Nat) : Prop := (line = fitsW ∧ FitL m xs due) ∨ (line = guessW ∧ ∃ v, GssN m xs v ∧ NumV v ∧ due = vL v) ∨ (line = settledW ∧ ∃ v, SettN m xs v ∧ NumV v ∧ due = vL v)
def pDuesD (K : PySem.W.Frag) : V → V → Hp → VK → XK → Prop := fun a b H Q _ => ∃ (r : Addr) (xs : List Int) (m : Int), a = .ref r ∧ b = .int m ∧ SqL K H r (xs.map V.int) ∧ 1 ≤ m ∧ m ≤ 1000000000000 ∧ Rng m xs ∧ xs.length ≤ 60 ∧ Fits m xs ∧
  ∀ H' DU es, Same H H' → DuesL H' DU es → es.length = 3 → (∀ e ∈ es, DueW m xs e.2.2.1 e.2.2.2) → Q (.ref DU) H'
/-- a deed: a line, and the rule and the row behind it -/
def DeedK (t pl m : Int) (xs : List Int) (line : List Nat) (t' pl' m' : Int) (xs' : List Int) : Prop := (line = headL ++ shw t' pl' m' ∧ xs' = []) ∨ (t' = t ∧ pl' = pl ∧ m' = m ∧ ((line = backW ∧ xs ≠ [] ∧ xs' = xs.dropLast) ∨ ∃ n, 0 ≤ n ∧ n < m ∧ line = seenW ++ 32 :: TL.numL n.toNat ∧ xs' = xs ++ [n] ∧ Fits m (xs ++ [n])))
def pDeedD : V → V → V → Hp → VK → XK → Prop := fun a b c H Q _ => ∃ (d r rw : Addr) (n : Nat) (t pl m : Int) (xs : List Int), a = .ref d ∧ b = .ref r ∧ c = .ref rw ∧ Seed H d n ∧ n + 60 ≤ 100000000 ∧ H r = some (.tup [.int t, .int pl, .int m]) ∧ Rule t pl m ∧ H rw = some (.lst (xs.map V.int)) ∧ rw ≠ d ∧ Rng m xs ∧ Fits m xs ∧ xs.length ≤ 59 ∧
  ∀ (H' : Hp) (L r' rw' : Addr) (line : List Nat) (t' pl' m' : Int) (xs' : List Int), But d H H' → Seed H' d (n + 60) → H L = none → H rw' = none → H' L = some (.lst [.str (SX.S line), .ref r', .ref rw']) → H' r' = some (.tup [.int t', .int pl', .int m']) → Rule t' pl' m' → H' rw' = some (.lst (xs'.map V.int)) → DeedK t pl m xs line t' pl' m' xs' → Q (.ref L) H'
theorem fits_of {m t : Int} {xs : List Int} (F : FitU m xs (xs.length - 2) t) : Fits m xs := fun z => z t F
/-- one more number, by times that fit -/
theorem fits_next {m t : Int} {xs : List Int} (m0 : 0 < m) (rg : Rng m xs) (h : 2 ≤ xs.length) (F : FitU m xs (xs.length - 2) t) : Fits m (xs ++ [nxB m xs t]) := by
  have r := nxB_rng m0 xs t
  have := (fit_snoc m0 rg r.1 r.2 h).mpr ⟨F, rfl⟩
  refine fits_of (t := t) ?_
  rw [List.length_append]
  show FitU m _ (xs.length + 1 - 2) t
  rw [show xs.length + 1 - 2 = xs.length - 1 by omega]
  exact this
theorem fits_some {m : Int} {xs : List Int} (m0 : 0 < m) (h : Fits m xs) {o : Option (Int × Int)} (F : FitR m xs (xs.length - 2) o) : ∃ l s, o = some (l, s) := by
  cases o with
  | none => exact absurd F h
  | some p => exact ⟨p.1, p.2, rfl⟩
def sp5r (p : V → V → V → V → V → Hp → VK → XK → Prop) : Sp := fun vs H Q E => ∃ a b c d e, vs = [a, b, c, d, e] ∧ p a b c d e H Q E
section
variable {P : Program} {w : World} {K : PySem.W.Frag} {mg : Str → Option Value} {base : Heap} {x : Str} {st : Stmt} {N : List Str} {k : Nat}
theorem Top.ok5r {a b c d e : Str} {p : V → V → V → V → V → Hp → VK → XK → Prop} (D : Top K mg x st [a, b, c, d, e]) (S : FnScope N [a, b, c, d, e] (defScope st))
    (hbody : ∀ (f : Addr) (cdv : Value) (A : Around) (outer : List Env) (s : Shared) (H : Hp) (v1 v2 v3 v4 v5 : V) (Q : VK) (E : XK), Room k (A.deeper (envOfC x (defScope st) s.heap.objs.size f cdv)) → p v1 v2 v3 v4 v5 H Q E →
      ∃ t, PSs (cxOf (L2.CX P w) P w K mg base N x (defScope st) f cdv A outer s H E) (defBody st) t ∧ t { nx := fun _ H' => Q .non H', rt := Q } (start N [v1, v2, v3, v4, v5]) H) : Has P w K mg base (L2.CX P w) (k + 1) x [a, b, c, d, e] (sp5r p) :=
  D.okX S (fun vs H Q E h => by obtain ⟨_, _, _, _, _, rfl, _⟩ := h; rfl) (fun f cdv A outer s H vs Q E hr h => by obtain ⟨v1, v2, v3, v4, v5, rfl, h⟩ := h; exact hbody f cdv A outer s H v1 v2 v3 v4 v5 Q E hr h)
end
end Tw

/-! A desk with a row seen, a deed at a time. -/
namespace Tw
open PySem PySem.Spec PyProof.Rows L2
theorem Kp.get {P1 P2 x y b : Addr} {H H' : Hp} {o : HO} (k : Kp P1 P2 x y H H') (t1 : GxR.TabG H P1) (t2 : GxR.TabG H P2) (e : H b = some o) (n : ∀ ps, o ≠ .tbl ps) (n1 : b ≠ x) (n2 : b ≠ y) : H' b = some o := k _ _ (tabG_ne t1 e n) (tabG_ne t2 e n) n1 n2 e
theorem ne_ins {H : Hp} {p C dx b : Addr} {fs : List (Str × V)} {o : HO} (hp : H p = some (.ins C dx fs)) (e : H b = some o) (n : ∀ C dx fs, o ≠ .ins C dx fs) : b ≠ p := fun z => by
  rw [z, hp] at e
  exact n _ _ _ (Option.some.inj e).symm
/-- what is held stands, whatever the desk and its row do -/
theorem HeldP.kp {P1 P2 p l C dx LH : Addr} {H H' : Hp} {fs : List (Str × V)} {xs : List Int} {hs : List Addr} (h : HeldP H LH hs) (t1 : GxR.TabG H P1) (t2 : GxR.TabG H P2) (hp : H p = some (.ins C dx fs)) (hl : H l = some (.lst (xs.map V.int))) (nl : l ≠ LH) (k : Kp P1 P2 p l H H') : HeldP H' LH hs := by
  have sl : ∀ {a : Addr} {z : Str} {r : List V}, H a = some (.lst (.str z :: r)) → a ≠ l := fun {a z r} e y => by
    rw [y, hl] at e
    match xs, e with
    | [], e => cases e
    | x :: xs, e => cases e
  refine ⟨k.get t1 t2 h.1 (fun ps z => by cases z) (ne_ins hp h.1 (fun _ _ _ z => by cases z)) (Ne.symm nl), fun x hx => ?_⟩
  obtain ⟨a, b, z, r, e1, e2, e3, sh⟩ := h.2 x hx
  exact ⟨a, b, z, r, k.get t1 t2 e1 (fun ps z => by cases z) (ne_ins hp e1 (fun _ _ _ z => by cases z)) (fun y => by rw [y, hl] at e1; cases e1), k.get t1 t2 e2 (fun ps z => by cases z) (ne_ins hp e2 (fun _ _ _ z => by cases z)) (sl e2), k.get t1 t2 e3 (fun ps z => by cases z) (ne_ins hp e3 (fun _ _ _ z => by cases z)) (sl e3), sh⟩
theorem Seed.kp {P1 P2 x y d : Addr} {H H' : Hp} {n : Nat} (h : Seed H d n) (t1 : GxR.TabG H P1) (t2 : GxR.TabG H P2) (k : Kp P1 P2 x y H H') (n1 : d ≠ x) (n2 : d ≠ y) : Seed H' d n := by
  obtain ⟨r, f, kk, c, e, z⟩ := h
  exact ⟨r, f, kk, c, k.get t1 t2 e (fun ps z => by cases z) n1 n2, z⟩
theorem DeskAt.kpDL {C CK P1 P2 d LH : Addr} {H H' : Hp} {p u k l : Addr} {t pl m : Int} {xs : List Int} {hs : List Addr} {n : Nat} (h : DeskAt C CK H p u k l t pl m xs) (t1 : GxR.TabG H P1) (t2 : GxR.TabG H P2) (hD : Seed H d n) (hh : HeldP H LH hs) (n1 : l ≠ d) (n2 : l ≠ LH) (kp : Kp P1 P2 d LH H H') : DeskAt C CK H' p u k l t pl m xs := by
  obtain ⟨⟨dx, e1⟩, e2, ⟨dk, e3⟩, e4⟩ := h
  obtain ⟨_, _, _, _, ed, _⟩ := hD
  have g : ∀ {a : Addr} {o : HO}, H a = some o → (∀ ps, o ≠ .tbl ps) → a ≠ d → a ≠ LH → H' a = some o := fun {a o} e n n1 n2 => kp.get t1 t2 e n n1 n2
  exact ⟨⟨dx, g e1 (fun ps z => by cases z) (fun z => by rw [z, ed] at e1; cases e1) (fun z => by rw [z, hh.1] at e1; cases e1)⟩, g e2 (fun ps z => by cases z) (fun z => by rw [z, ed] at e2; cases e2) (fun z => by rw [z, hh.1] at e2; cases e2), ⟨dk, g e3 (fun ps z => by cases z) (fun z => by rw [z, ed] at e3; cases e3) (fun z => by rw [z, hh.1] at e3; cases e3)⟩, g e4 (fun ps z => by cases z) n1 n2⟩
theorem deed_facts {t pl m t' pl' m' : Int} {xs xs' : List Int} {line : List Nat} (m0 : 0 < m) (m0' : 0 < m') (rg : Rng m xs) (ft : Fits m xs) (h : DeedK t pl m xs line t' pl' m' xs') : Rng m' xs' ∧ Fits m' xs' ∧ xs'.length ≤ xs.length + 1 := by
  rcases h with ⟨_, rfl⟩ | ⟨rfl, rfl, rfl, ⟨_, _, rfl⟩ | ⟨n, n0, n1, _, rfl, F⟩⟩
  · exact ⟨(fun x hx => by cases hx), fits_short m0' (by decide), Nat.zero_le _⟩
  · exact ⟨rng_drop rg, fits_drop m0 ft, by rw [List.length_dropLast]; omega⟩
  · exact ⟨rng_snoc rg ⟨n0, n1⟩, F, by rw [List.length_append]; exact Nat.le_refl _⟩
section
variable {P : Program} {w : World} {K : PySem.W.Frag} {mg : Str → Option Value} {base : Heap} {C CK P1 P2 dL dR dA : Addr}
/-- the line of a deed, asked -/
theorem ask_deed {t pl m t' pl' m' : Int} {xs xs' : List Int} {line : List Nat} (R : Rule t pl m) (R' : Rule t' pl' m') (xl : xs.length < 60) (rg : Rng m xs) (dk : DeedK t pl m xs line t' pl' m' xs')
    (aSeen : ∀ (t pl m n : Int) (xs : List Int), Rule t pl m → 0 ≤ n → n < m → xs.length < 60 → Rng m xs → Fits m (xs ++ [n]) → AskDo P w K mg base C CK P1 P2 dL dR dA t pl m xs (xs ++ [n]) (seenW ++ 32 :: TL.numL n.toNat))
    (aBack : ∀ (t pl m : Int) (xs : List Int), xs.length ≤ 60 → xs ≠ [] → AskDo P w K mg base C CK P1 P2 dL dR dA t pl m xs xs.dropLast backW)
    {H : Hp} {Q : VK} {E : XK} {p u k l : Addr} (hd : DeskAt C CK H p u k l t pl m xs) (t1 : GxR.TabG H P1) (t2 : GxR.TabG H P2)
    (q : ∀ H' u' k' l' q, Kp P1 P2 p l H H' → GxR.TabG H' P1 → GxR.TabG H' P2 → DeskAt C CK H' p u' k' l' t' pl' m' xs' → (l' = l ∨ H l' = none) → l' ≠ q → H q = none → H' q = some (.lst []) → Q (.ref q) H') : pAsk P w K mg base C CK P1 P2 dL dR dA (.ref p) (.str (SX.S line)) H Q E := by
  rcases dk with ⟨rfl, rfl⟩ | ⟨rfl, rfl, rfl, dk⟩
  · obtain ⟨⟨dx, hp⟩, _⟩ := id hd
    have lsh := shw_len R'
    exact ⟨p, dx, u, k, _, rfl, rfl, by rw [List.length_append]; show 5 + _ ≤ 600; omega, hp, t1, t2, .inl ⟨_, t', pl', m', rfl, read_shw R', fun H' u' k' l' q5 g D n5 nlq nq hq => q H' u' k' l' q5 (fun b o n1 n2 n3 _ e => g.2.2 b o n1 n2 n3 e) g.1 g.2.1 D (.inr n5) nlq nq hq⟩⟩
  · rcases dk with ⟨rfl, ne, rfl⟩ | ⟨n, n0, n1, rfl, rfl, F⟩
    · exact aBack _ _ _ _ (by omega) ne _ _ _ p u k l hd t1 t2 fun H' q5 g D nq ql hq => q H' u k l q5 (fun b o n1 n2 _ n4 e => g.2.2 b o n1 n2 n4 e) g.1 g.2.1 D (.inl rfl) (Ne.symm ql) nq hq
    · exact aSeen _ _ _ _ _ R n0 n1 xl rg F _ _ _ p u k l hd t1 t2 fun H' q5 g D nq ql hq => q H' u k l q5 (fun b o n1 n2 _ n4 e => g.2.2 b o n1 n2 n4 e) g.1 g.2.1 D (.inl rfl) (Ne.symm ql) nq hq
end
/-- all that a law knows of the desk, what is held, its cells, the rule and the row -/
structure Lw (C CK P1 P2 : Addr) (H : Hp) (p LH q7 : Addr) (cs : List Int) (r rw u k l : Addr) (t pl m : Int) (xs : List Int) (hs : List Addr) : Prop where
  dk : DeskAt C CK H p u k l t pl m xs
  t1 : GxR.TabG H P1
  t2 : GxR.TabG H P2
  hh : HeldP H LH hs
  hq : H q7 = some (.lst (cs.map V.int))
  hr : H r = some (.tup [.int t, .int pl, .int m])
  R : Rule t pl m
  hrw : H rw = some (.lst (xs.map V.int))
  rg : Rng m xs
  ft : Fits m xs
  nlL : l ≠ LH
  nlq : l ≠ q7
  nrL : rw ≠ LH
  nqL : q7 ≠ LH
theorem Kp.sqL {K : PySem.W.Frag} {P1 P2 x y a : Addr} {H0 H H' : Hp} {xs : List V} (k : Kp P1 P2 x y H H') (t1 : GxR.TabG H P1) (t2 : GxR.TabG H P2) (s : Same H0 H) (n1 : H0 x = none) (n2 : H0 y = none) (h : SqL K H0 a xs) : SqL K H' a xs := by
  rcases h with (h | ⟨ob, h⟩) | h
  · exact .inl (.inl (k.get t1 t2 (s _ _ h) (fun ps z => by cases z) (fun z => by rw [z, n1] at h; cases h) (fun z => by rw [z, n2] at h; cases h)))
  · exact .inl (.inr ⟨ob, k.get t1 t2 (s _ _ h) (fun ps z => by cases z) (fun z => by rw [z, n1] at h; cases h) (fun z => by rw [z, n2] at h; cases h)⟩)
  · exact .inr h
theorem sqL_keep {K : PySem.W.Frag} {a : Addr} {H H' : Hp} {xs : List V} (h : SqL K H a xs) (k : ∀ o, (∀ ps, o ≠ HO.tbl ps) → H a = some o → H' a = some o) : SqL K H' a xs := by
  rcases h with (h | ⟨ob, h⟩) | h
  · exact .inl (.inl (k _ (fun ps z => by cases z) h))
  · exact .inl (.inr ⟨ob, k _ (fun ps z => by cases z) h⟩)
  · exact .inr h
theorem ne_free {H : Hp} {a b : Addr} {o : HO} (e : H a = some o) (n : H b = none) : a ≠ b := fun z => by rw [z, n] at e; cases e
theorem FitL.one {m : Int} {xs : List Int} {due : List Nat} (h : FitL m xs due) : xs.length < 2 → due = anyL := fun l => by
  rcases h with h | ⟨h, _⟩
  · exact h.2
  · omega
theorem FitL.two {m : Int} {xs : List Int} {due : List Nat} (h : FitL m xs due) : ∀ ll s, 2 ≤ xs.length → FitR m xs (xs.length - 2) (some (ll, s)) → due = pairL ll s := fun ll s l F => by
  rcases h with ⟨h, _⟩ | ⟨_, ll', s', F', rfl⟩
  · omega
  · cases F.uniq F'
    rfl
theorem FitL.lt {m : Int} {xs : List Int} {due : List Nat} (h : FitL m xs due) : ∀ c ∈ due, c < 1114112 := by
  rcases h with ⟨_, rfl⟩ | ⟨_, ll', s', F', rfl⟩
  · decide
  · exact pairL_lt _ _
theorem SettN.one {m : Int} {xs : List Int} {v : V} (h : SettN m xs v) : xs.length < 2 → vL v = noneL := fun l => by
  rcases h with ⟨_, rfl⟩ | ⟨h, _⟩
  · rfl
  · omega
theorem SettN.two {m : Int} {xs : List Int} {v : V} (h : SettN m xs v) : ∀ u, 2 ≤ xs.length → Sett m xs u → vL v = vL u := fun u l hu => by
  rcases h with ⟨h, _⟩ | ⟨_, h⟩
  · omega
  · rw [h.uniq hu]
section
variable {C CK P1 P2 : Addr} {H H' : Hp} {p LH q7 : Addr} {cs : List Int} {r rw u k l d : Addr} {t pl m : Int} {xs : List Int} {hs : List Addr} {n : Nat}
theorem Lw.same (h : Lw C CK P1 P2 H p LH q7 cs r rw u k l t pl m xs hs) (s : Same H H') : Lw C CK P1 P2 H' p LH q7 cs r rw u k l t pl m xs hs :=
  ⟨h.dk.same s, tabG_same h.t1 s, tabG_same h.t2 s, h.hh.same s, s _ _ h.hq, s _ _ h.hr, h.R, s _ _ h.hrw, h.rg, h.ft, h.nlL, h.nlq, h.nrL, h.nqL⟩
theorem Lw.but (h : Lw C CK P1 P2 H p LH q7 cs r rw u k l t pl m xs hs) (hD : Seed H d n) (n1 : l ≠ d) (n2 : rw ≠ d) (n3 : q7 ≠ d) (b : But d H H') : Lw C CK P1 P2 H' p LH q7 cs r rw u k l t pl m xs hs :=
  ⟨h.dk.butS hD n1 b, tabG_butD h.t1 hD b, tabG_butD h.t2 hD b, h.hh.butS hD b, b _ _ n3 h.hq, b _ _ (hD.ne_tup h.hr) h.hr, h.R, b _ _ n2 h.hrw, h.rg, h.ft, h.nlL, h.nlq, h.nrL, h.nqL⟩
theorem Lw.held {hs' : List Addr} (h : Lw C CK P1 P2 H p LH q7 cs r rw u k l t pl m xs hs) (hD : Seed H d n) (n1 : l ≠ d) (n2 : rw ≠ d) (n3 : q7 ≠ d) (kp : Kp P1 P2 d LH H H') (t1 : GxR.TabG H' P1) (t2 : GxR.TabG H' P2) (hh : HeldP H' LH hs') : Lw C CK P1 P2 H' p LH q7 cs r rw u k l t pl m xs hs' :=
  ⟨h.dk.kpDL h.t1 h.t2 hD h.hh n1 h.nlL kp, t1, t2, hh, kp.get h.t1 h.t2 h.hq (fun ps z => by cases z) n3 h.nqL, kp.get h.t1 h.t2 h.hr (fun ps z => by cases z) (hD.ne_tup h.hr) (fun z => by have := h.hr; rw [z, h.hh.1] at this; cases this), h.R, kp.get h.t1 h.t2 h.hrw (fun ps z => by cases z) n2 h.nrL, h.rg, h.ft, h.nlL, h.nlq, h.nrL, h.nqL⟩
/-- one deed -/
theorem Lw.step {H0 H1 H2 H3 : Hp} {n1 : Nat} {r' rw' u' k' l' q : Addr} {t' pl' m' : Int} {xs' : List Int} {o : HO} (h : Lw C CK P1 P2 H0 p LH q7 cs r rw u k l t pl m xs hs) (hD : Seed H0 d n) (nld : l ≠ d) (nqd : q7 ≠ d) (B : But d H0 H1) (D1 : Seed H1 d n1) (f : H0 rw' = none) (hr' : H1 r' = some (.tup [.int t', .int pl', .int m'])) (R' : Rule t' pl' m') (hrw' : H1 rw' = some (.lst (xs'.map V.int))) (rg' : Rng m' xs') (ft' : Fits m' xs')
    (kp : Kp P1 P2 p l H1 H2) (T1 : GxR.TabG H2 P1) (T2 : GxR.TabG H2 P2) (D2 : DeskAt C CK H2 p u' k' l' t' pl' m' xs') (ll : l' = l ∨ H1 l' = none) (nlq' : l' ≠ q) (nq : H1 q = none) (hq2 : H2 q = some (.lst [])) (s : Same H2 H3) :
    Lw C CK P1 P2 (upd H3 q o) p LH q7 cs r' rw' u' k' l' t' pl' m' xs' hs ∧ Seed (upd H3 q o) d n1 ∧ l' ≠ d ∧ rw' ≠ d := by
  have dk1 := h.dk.butS hD nld B
  have t11 := tabG_butD h.t1 hD B
  have t12 := tabG_butD h.t2 hD B
  have hh1 := h.hh.butS hD B
  have hq1 := B _ _ nqd h.hq
  obtain ⟨dx, hp1⟩ := dk1.1
  have hl1 := dk1.2.2.2
  have nrwl : rw' ≠ l := fun z => by rw [z, h.dk.2.2.2] at f; cases f
  have nrwd : rw' ≠ d := hD.ne f
  have npd : d ≠ p := fun z => by obtain ⟨_, _, _, _, e, _⟩ := D1; rw [z, hp1] at e; cases e
  have dfree : ∀ x, H1 x = none → x ≠ d := fun x e => D1.ne e
  have nqL : q ≠ LH := fun z => by rw [z, hh1.1] at nq; cases nq
  have hh2 := hh1.kp t11 t12 hp1 hl1 h.nlL kp
  have D12 := D1.kp t11 t12 kp npd (Ne.symm nld)
  have hr2 := kp.get t11 t12 hr' (fun ps z => by cases z) (ne_ins hp1 hr' (fun _ _ _ z => by cases z)) (fun z => by rw [z, hl1] at hr'; cases hr')
  have hrw2 := kp.get t11 t12 hrw' (fun ps z => by cases z) (ne_ins hp1 hrw' (fun _ _ _ z => by cases z)) nrwl
  have hq72 := kp.get t11 t12 hq1 (fun ps z => by cases z) (ne_ins hp1 hq1 (fun _ _ _ z => by cases z)) (Ne.symm h.nlq)
  have hq3 := s _ _ hq2
  have nrwq : rw' ≠ q := fun z => by rw [z, nq] at hrw'; cases hrw'
  have nq7q : q7 ≠ q := fun z => by rw [z, nq] at hq1; cases hq1
  have nrq : r' ≠ q := fun z => by rw [z, nq] at hr'; cases hr'
  refine ⟨⟨(D2.same s).updL hq3 nlq', tabG_updL (tabG_same T1 s) hq3, tabG_updL (tabG_same T2 s) hq3, (hh2.same s).updO hq3 nqL, by rw [upd_ne nq7q]; exact s _ _ hq72, by rw [upd_ne nrq]; exact s _ _ hr2, R', by rw [upd_ne nrwq]; exact s _ _ hrw2, rg', ft', ?_, ?_, ?_, h.nqL⟩, (D12.same s).mut (dfree q nq), ?_, nrwd⟩
  · rcases ll with rfl | ll
    · exact h.nlL
    · exact fun z => by rw [z, hh1.1] at ll; cases ll
  · rcases ll with rfl | ll
    · exact h.nlq
    · exact fun z => by rw [z, hq1] at ll; cases ll
  · exact fun z => by rw [z, h.hh.1] at f; cases f
  · rcases ll with rfl | ll
    · exact nld
    · exact dfree l' ll
end
end Tw

/-! k39: questions at a desk, rows along the rule, two desks beside each other. -/
namespace Tw
open PySem PySem.Spec PyProof.Rows L2
/-- a row along the rule -/
def Orbt (t pl m : Int) (xs : List Int) : Prop := ∀ i, i + 1 < xs.length → xs.getD (i + 1) 0 = stp t pl m (xs.getD i 0)
theorem orbt_nil {t pl m : Int} : Orbt t pl m [] := fun i hi => absurd hi (Nat.not_lt_zero _)
theorem orbt_fitU {t pl m : Int} {xs : List Int} (h : Orbt t pl m xs) {k : Nat} (hk : k + 2 ≤ xs.length) : FitU m xs k t := by
  intro i hi
  unfold gat
  have h1 := dvd_of_mod_eq (m := m) (a := t * xs.getD i 0 + pl) (b := xs.getD (i + 1) 0) (h i (by omega)).symm
  have h2 := dvd_of_mod_eq (m := m) (a := t * xs.getD (i + 1) 0 + pl) (b := xs.getD (i + 1 + 1) 0) (h (i + 1) (by omega)).symm
  obtain ⟨u, hu⟩ := h1
  obtain ⟨v, hv⟩ := h2
  exact ⟨v - u, by rw [Int.mul_sub, Int.mul_sub, ← hu, ← hv]; omega⟩
theorem orbt_fits {t pl m : Int} {xs : List Int} (m0 : 0 < m) (h : Orbt t pl m xs) : Fits m xs := by
  by_cases c : xs.length ≤ 2
  · exact fits_short m0 c
  · exact fits_of (orbt_fitU h (by omega))
theorem getD_drop1 {xs : List Int} {i : Nat} (h : i + 1 < xs.length) : xs.dropLast.getD i 0 = xs.getD i 0 := by
  rw [List.getD_eq_getElem?_getD, List.getD_eq_getElem?_getD, List.getElem?_dropLast, if_pos (by omega)]
theorem orbt_drop {t pl m : Int} {xs : List Int} (h : Orbt t pl m xs) : Orbt t pl m xs.dropLast := fun i hi => by
  rw [List.length_dropLast] at hi
  rw [getD_drop1 (by omega), getD_drop1 (by omega)]
  exact h i (by omega)
theorem orbt_snoc {t pl m n : Int} {xs : List Int} (h : Orbt t pl m xs) (hn : xs = [] ∨ n = stp t pl m (xs.getD (xs.length - 1) 0)) : Orbt t pl m (xs ++ [n]) := fun i hi => by
  rw [List.length_append] at hi
  have hi' : i + 1 < xs.length + 1 := hi
  by_cases c : i + 1 < xs.length
  · rw [getD_snoc_l c, getD_snoc_l (by omega)]
    exact h i c
  · have e : xs.length = i + 1 := by omega
    rcases hn with hn | hn
    · rw [hn] at e; cases e
    · rw [← e, getD_snoc_r, getD_snoc_l (by omega), hn, e]
      rfl
theorem rds_ne {t p m : Int} {zs : List (Int × Int)} (m0 : 0 < m) (h : Rds (stp t p m) m zs) : zs ≠ [] := by
  obtain ⟨j, c, R, jc, _⟩ := rnd_rho (t := t) (p := p) m0 (Int.le_refl 0) m0
  have P := R.per (k := j) (Nat.le_refl _)
  have b := itr_rng (t := t) (p := p) m0 ⟨Int.le_refl 0, m0⟩ j
  have pos : 0 < Nper (stp t p m) m c := pcnt_pos.mpr ⟨_, alls_mem.mpr b, P⟩
  intro z
  have := (h.mem c (Crnd (stp t p m) m c)).mpr ⟨c, rfl, pos, rfl⟩
  rw [z] at this
  cases this
def pText : V → Hp → VK → XK → Prop := fun a H Q _ => NumV a ∧ Q (.str (SX.S (vL a))) H
def pOfRow (K : PySem.W.Frag) : V → V → V → Hp → VK → XK → Prop := fun a b c H Q _ => ∃ (way : Int) (r : Addr) (xs : List Int) (m : Int), a = .int way ∧ b = .ref r ∧ c = .int m ∧ 0 ≤ way ∧ way < 3 ∧ SqT K H r (xs.map V.int) ∧ 1 ≤ m ∧ m ≤ 1000000000000 ∧ Rng m xs ∧ 2 ≤ xs.length ∧ xs.length ≤ 60 ∧ Fits m xs ∧
  ∀ H' L D line due, Same H H' → H L = none → H D = none → H' L = some (.lst [.str (SX.S line), .ref D]) → H' D = some (.lst [.str (SX.S due)]) → DueW m xs line due → Q (.ref L) H'
/-- a question, and what is due -/
def QuesK (t pl m : Int) (xs : List Int) (line : List Nat) (zs : List Str) : Prop :=
  (∃ due, DueW m xs line due ∧ zs = [SX.S due]) ∨
  (∃ n : Int, 0 ≤ n ∧ n < m ∧ line = nextW ++ 32 :: TL.numL n.toNat ∧ zs = [SX.S (TL.numL (stp t pl m n).toNat)]) ∨
  (∃ s n : Int, 0 ≤ s ∧ s < m ∧ 1 ≤ n ∧ n ≤ 60 ∧ line = rowW ++ 32 :: (TL.numL s.toNat ++ 32 :: TL.numL n.toNat) ∧ zs = [SX.S (rowL (orb (stp t pl m) n.toNat s))]) ∨
  (∃ s n : Int, 0 ≤ s ∧ s < m ∧ 0 ≤ n ∧ n ≤ 1000000000000000000 ∧ line = jumpW ++ 32 :: (TL.numL s.toNat ++ 32 :: TL.numL n.toNat) ∧ zs = [SX.S (TL.numL (ahd t pl m n.toNat s).toNat)]) ∨
  (∃ n : Int, 0 ≤ n ∧ n < m ∧ m ≤ 2000 ∧ line = roundW ++ 32 :: TL.numL n.toNat ∧ zs = [SX.S (pairL (rndT t pl m n) (rndL t pl m n))]) ∨
  (∃ ps, m ≤ 2000 ∧ Rds (stp t pl m) m ps ∧ line = roundsW ∧ zs = pairsS ps) ∨
  (∃ b : Bool, (b = true ↔ ClsR t pl m) ∧ line = oneW ∧ zs = [SX.S (if b = true then yesL else noL)]) ∨
  (line = showW ∧ zs = [SX.S (shw t pl m)])
def pQuest : V → V → V → Hp → VK → XK → Prop := fun a b c H Q _ => ∃ (d r rw : Addr) (n : Nat) (t pl m : Int) (xs : List Int), a = .ref d ∧ b = .ref r ∧ c = .ref rw ∧ Seed H d n ∧ n + 20 ≤ 100000000 ∧ H r = some (.tup [.int t, .int pl, .int m]) ∧ Rule t pl m ∧ H rw = some (.lst (xs.map V.int)) ∧ rw ≠ d ∧ Rng m xs ∧ Fits m xs ∧ xs.length ≤ 60 ∧
  ∀ (H' : Hp) (L D : Addr) (line : List Nat) (zs : List Str), But d H H' → Seed H' d (n + 20) → H L = none → H D = none → H' L = some (.lst [.str (SX.S line), .ref D]) → H' D = some (.lst (zs.map V.str)) → QuesK t pl m xs line zs → Q (.ref L) H'
/-- a deed along the rule -/
def DeedO (t pl m : Int) (xs : List Int) (line : List Nat) (t' pl' m' : Int) (xs' : List Int) : Prop := DeedK t pl m xs line t' pl' m' xs' ∧ Orbt t' pl' m' xs'
def pDeedO : V → V → V → Hp → VK → XK → Prop := fun a b c H Q _ => ∃ (d r rw : Addr) (n : Nat) (t pl m : Int) (xs : List Int), a = .ref d ∧ b = .ref r ∧ c = .ref rw ∧ Seed H d n ∧ n + 60 ≤ 100000000 ∧ H r = some (.tup [.int t, .int pl, .int m]) ∧ Rule t pl m ∧ H rw = some (.lst (xs.map V.int)) ∧ rw ≠ d ∧ Rng m xs ∧ Orbt t pl m xs ∧ xs.length ≤ 59 ∧
  ∀ (H' : Hp) (L r' rw' : Addr) (line : List Nat) (t' pl' m' : Int) (xs' : List Int), But d H H' → Seed H' d (n + 60) → H L = none → H rw' = none → H' L = some (.lst [.str (SX.S line), .ref r', .ref rw']) → H' r' = some (.tup [.int t', .int pl', .int m']) → Rule t' pl' m' → H' rw' = some (.lst (xs'.map V.int)) → DeedO t pl m xs line t' pl' m' xs' → Q (.ref L) H'
section
variable {P : Program} {w : World} {K : PySem.W.Frag} {mg : Str → Option Value} {base : Heap} {C CK P1 P2 dL dR dA : Addr}
/-- a list of texts told -/
def AskT (P : Program) (w : World) (K : PySem.W.Frag) (mg : Str → Option Value) (base : Heap) (C CK P1 P2 dL dR dA : Addr) (t pl m : Int) (xs : List Int) (line : List Nat) (zs : List Str) : Prop := (∀ z ∈ zs, PyData.strOk z = true) ∧ zs ≠ [] ∧ ∀ (H : Hp) (Q : VK) (E : XK) (p u k l : Addr), DeskAt C CK H p u k l t pl m xs → GxR.TabG H P1 → GxR.TabG H P2 →
  (∀ H' q, Grow P1 P2 H H' → H q = none → H' q = some (.lst (zs.map V.str)) → Q (.ref q) H') → pAsk P w K mg base C CK P1 P2 dL dR dA (.ref p) (.str (SX.S line)) H Q E
theorem AskOk.t {t pl m : Int} {xs : List Int} {line due : List Nat} (h : AskOk P w K mg base C CK P1 P2 dL dR dA t pl m xs line due) : AskT P w K mg base C CK P1 P2 dL dR dA t pl m xs line [SX.S due] :=
  ⟨fun z hz => by rw [List.mem_singleton.mp hz]; exact h.1, by simp, h.2⟩
theorem AskRs.t {t pl m : Int} {xs : List Int} {line : List Nat} {ps : List (Int × Int)} (m0 : 0 < m) (h : AskRs P w K mg base C CK P1 P2 dL dR dA t pl m xs line) (rd : Rds (stp t pl m) m ps) : AskT P w K mg base C CK P1 P2 dL dR dA t pl m xs line (pairsS ps) :=
  ⟨pairsS_ok ps, fun z => rds_ne m0 rd (List.map_eq_nil_iff.mp z), fun H Q E p u k l hd t1 t2 q => h H Q E p u k l hd t1 t2 fun H' q' zs g nq rd' hq => q H' q' g nq (by rw [rd.uniq rd']; exact hq)⟩
end
/-- one of the desks, as the law has it: its list, the rule and the row in it -/
structure Dk (C CK : Addr) (H : Hp) (LH e p r rw u k l : Addr) (t pl m : Int) (xs : List Int) : Prop where
  en : H e = some (.lst [.ref p, .ref r, .ref rw])
  dk : DeskAt C CK H p u k l t pl m xs
  hr : H r = some (.tup [.int t, .int pl, .int m])
  R : Rule t pl m
  hrw : H rw = some (.lst (xs.map V.int))
  rg : Rng m xs
  ob : Orbt t pl m xs
  neL : e ≠ LH
  nlL : l ≠ LH
  nrL : rw ≠ LH
section
variable {C CK P1 P2 : Addr} {H H' : Hp} {LH e p r rw u k l d q : Addr} {t pl m : Int} {xs : List Int} {n : Nat}
theorem Dk.by (h : Dk C CK H LH e p r rw u k l t pl m xs) (g : ∀ b o, (b = e ∨ b = p ∨ b = r ∨ b = rw ∨ b = u ∨ b = k ∨ b = l) → (∀ ps, o ≠ .tbl ps) → H b = some o → H' b = some o) : Dk C CK H' LH e p r rw u k l t pl m xs := by
  obtain ⟨⟨dx, hp⟩, hu, ⟨dk, hk⟩, hl⟩ := h.dk
  exact ⟨g _ _ (.inl rfl) (fun ps z => by cases z) h.en, ⟨⟨dx, g _ _ (by simp) (fun ps z => by cases z) hp⟩, g _ _ (by simp) (fun ps z => by cases z) hu, ⟨dk, g _ _ (by simp) (fun ps z => by cases z) hk⟩, g _ _ (by simp) (fun ps z => by cases z) hl⟩, g _ _ (by simp) (fun ps z => by cases z) h.hr, h.R, g _ _ (by simp) (fun ps z => by cases z) h.hrw, h.rg, h.ob, h.neL, h.nlL, h.nrL⟩
theorem Dk.ft (h : Dk C CK H LH e p r rw u k l t pl m xs) : Fits m xs := orbt_fits (by have := h.R.b1; omega) h.ob
theorem Dk.same (h : Dk C CK H LH e p r rw u k l t pl m xs) (s : Same H H') : Dk C CK H' LH e p r rw u k l t pl m xs := h.by fun b o _ _ e => s _ _ e
theorem Dk.grow (h : Dk C CK H LH e p r rw u k l t pl m xs) (t1 : GxR.TabG H P1) (t2 : GxR.TabG H P2) (g : Grow P1 P2 H H') : Dk C CK H' LH e p r rw u k l t pl m xs := h.by fun b o _ n e => g.get t1 t2 e n
/-- none of its parts is a list that is neither its own list, nor its row, nor the kept one -/
theorem Dk.ne (h : Dk C CK H LH e p r rw u k l t pl m xs) {x : Addr} {ys : List V} (hx : H x = some (.lst ys)) (n1 : e ≠ x) (n2 : rw ≠ x) (n3 : l ≠ x) : ∀ b, (b = e ∨ b = p ∨ b = r ∨ b = rw ∨ b = u ∨ b = k ∨ b = l) → b ≠ x := by
  obtain ⟨⟨dx, hp⟩, hu, ⟨dk, hk⟩, hl⟩ := h.dk
  rintro b (rfl | rfl | rfl | rfl | rfl | rfl | rfl)
  · exact n1
  · exact fun z => by rw [z, hx] at hp; cases hp
  · exact fun z => by have := h.hr; rw [z, hx] at this; cases this
  · exact n2
  · exact fun z => by rw [z, hx] at hu; cases hu
  · exact fun z => by rw [z, hx] at hk; cases hk
  · exact n3
theorem Dk.updL {o : HO} {ys : List V} (h : Dk C CK H LH e p r rw u k l t pl m xs) {x : Addr} (hx : H x = some (.lst ys)) (n1 : e ≠ x) (n2 : rw ≠ x) (n3 : l ≠ x) : Dk C CK (upd H x o) LH e p r rw u k l t pl m xs := h.by fun b o' hb _ e => by rw [upd_ne (h.ne hx n1 n2 n3 b hb)]; exact e
theorem ref_ne_int {H : Hp} {a b : Addr} {x : Addr} {ys : List V} {i : Int} {zs : List V} (ha : H a = some (.lst (.ref x :: ys))) (hb : H b = some (.lst (.int i :: zs))) : a ≠ b := fun z => by
  rw [z, hb] at ha
  cases ha
theorem ref_ne_ints {H : Hp} {a b : Addr} {x : Addr} {ys : List V} {zs : List Int} (ha : H a = some (.lst (.ref x :: ys))) (hb : H b = some (.lst (zs.map V.int))) : a ≠ b := fun z => by
  rw [z, hb] at ha
  match zs, ha with
  | [], ha => cases ha
  | _ :: _, ha => cases ha
theorem Dk.but (h : Dk C CK H LH e p r rw u k l t pl m xs) (hD : Seed H d n) (n2 : rw ≠ d) (n3 : l ≠ d) (b : But d H H') : Dk C CK H' LH e p r rw u k l t pl m xs := by
  obtain ⟨_, _, _, _, ed, _⟩ := hD
  exact h.by fun b' o hb _ e => b _ _ (h.ne ed (ref_ne_int h.en ed) n2 n3 b' hb) e
/-- the other desk's deed -/
theorem Dk.kp {p' u' k' l' dx' : Addr} {ys : List Int} (h : Dk C CK H LH e p r rw u k l t pl m xs) (t1 : GxR.TabG H P1) (t2 : GxR.TabG H P2) (hp' : H p' = some (.ins C dx' (dkf u' k'))) (hl' : H l' = some (.lst (ys.map V.int))) (np : p ≠ p') (nl : l ≠ l') (nrw : rw ≠ l') (kp : Kp P1 P2 p' l' H H') : Dk C CK H' LH e p r rw u k l t pl m xs := by
  obtain ⟨⟨dx, hp⟩, hu, ⟨dk, hk⟩, hl⟩ := h.dk
  refine h.by fun b o hb n eb => kp.get t1 t2 eb n ?_ (h.ne hl' (ref_ne_ints h.en hl') nrw nl b hb)
  rcases hb with rfl | rfl | rfl | rfl | rfl | rfl | rfl
  · exact ne_ins hp' h.en (fun _ _ _ z => by cases z)
  · exact np
  · exact ne_ins hp' h.hr (fun _ _ _ z => by cases z)
  · exact ne_ins hp' h.hrw (fun _ _ _ z => by cases z)
  · exact ne_ins hp' hu (fun _ _ _ z => by cases z)
  · intro z
    rw [z, hp'] at hk
    have e1 := dkf_rule u' k'
    have e2 : (dkf u' k') = kf m l := by
      have := Option.some.inj hk
      injection this
    rw [e2, kf_no m l (by decide +kernel) (by decide +kernel)] at e1
    cases e1
  · exact ne_ins hp' hl (fun _ _ _ z => by cases z)
end
end Tw

/-! TwoD desks beside each other. -/
namespace Tw
open PySem PySem.Spec PyProof.Rows L2
structure DR where
  e : Addr
  p : Addr
  r : Addr
  rw : Addr
  u : Addr
  k : Addr
  l : Addr
  t : Int
  pl : Int
  m : Int
  xs : List Int
def DkR (C CK : Addr) (H : Hp) (LH : Addr) (x : DR) : Prop := Dk C CK H LH x.e x.p x.r x.rw x.u x.k x.l x.t x.pl x.m x.xs
structure Apart (x y : DR) : Prop where
  e : x.e ≠ y.e
  p : x.p ≠ y.p
  l : x.l ≠ y.l
  r1 : x.rw ≠ y.l
  r2 : y.rw ≠ x.l
theorem Apart.symm {x y : DR} (h : Apart x y) : Apart y x := ⟨h.e.symm, h.p.symm, h.l.symm, h.r2, h.r1⟩
structure TwoD (C CK P1 P2 : Addr) (H : Hp) (DL LH q7 : Addr) (E0 : List V) (cs : List Int) (A B : DR) (hs : List Addr) : Prop where
  a : DkR C CK H LH A
  b : DkR C CK H LH B
  t1 : GxR.TabG H P1
  t2 : GxR.TabG H P2
  hh : HeldP H LH hs
  hD : H DL = some (.lst E0)
  hq : H q7 = some (.lst (cs.map V.int))
  ap : Apart A B
  aq : A.l ≠ q7
  bq : B.l ≠ q7
  qL : q7 ≠ LH
  DLL : DL ≠ LH
section
variable {C CK P1 P2 : Addr} {H H' : Hp} {DL LH q7 d : Addr} {x0 : Addr} {E0' : List V} {cs : List Int} {A B : DR} {hs : List Addr} {n : Nat}
theorem TwoD.swap {E0 : List V} (h : TwoD C CK P1 P2 H DL LH q7 E0 cs A B hs) : TwoD C CK P1 P2 H DL LH q7 E0 cs B A hs := ⟨h.b, h.a, h.t1, h.t2, h.hh, h.hD, h.hq, h.ap.symm, h.bq, h.aq, h.qL, h.DLL⟩
theorem TwoD.same {E0 : List V} (h : TwoD C CK P1 P2 H DL LH q7 E0 cs A B hs) (s : Same H H') : TwoD C CK P1 P2 H' DL LH q7 E0 cs A B hs := ⟨Dk.same h.a s, Dk.same h.b s, tabG_same h.t1 s, tabG_same h.t2 s, h.hh.same s, s _ _ h.hD, s _ _ h.hq, h.ap, h.aq, h.bq, h.qL, h.DLL⟩
theorem TwoD.grow {E0 : List V} (h : TwoD C CK P1 P2 H DL LH q7 E0 cs A B hs) (g : Grow P1 P2 H H') : TwoD C CK P1 P2 H' DL LH q7 E0 cs A B hs := ⟨Dk.grow h.a h.t1 h.t2 g, Dk.grow h.b h.t1 h.t2 g, g.t1, g.t2, h.hh.grow h.t1 h.t2 g, g.get h.t1 h.t2 h.hD (fun ps z => by cases z), g.get h.t1 h.t2 h.hq (fun ps z => by cases z), h.ap, h.aq, h.bq, h.qL, h.DLL⟩
/-- what is off the seed -/
structure OffD (d q7 : Addr) (A B : DR) : Prop where
  la : A.l ≠ d
  lb : B.l ≠ d
  ra : A.rw ≠ d
  rb : B.rw ≠ d
  q : q7 ≠ d
theorem OffD.swap (h : OffD d q7 A B) : OffD d q7 B A := ⟨h.lb, h.la, h.rb, h.ra, h.q⟩
theorem TwoD.but (h : TwoD C CK P1 P2 H DL LH q7 (.ref x0 :: E0') cs A B hs) (hD : Seed H d n) (o : OffD d q7 A B) (b : But d H H') : TwoD C CK P1 P2 H' DL LH q7 (.ref x0 :: E0') cs A B hs := by
  obtain ⟨_, _, _, _, ed, _⟩ := id hD
  exact ⟨Dk.but h.a hD o.ra o.la b, Dk.but h.b hD o.rb o.lb b, tabG_butD h.t1 hD b, tabG_butD h.t2 hD b, h.hh.butS hD b, b _ _ (ref_ne_int h.hD ed) h.hD, b _ _ o.q h.hq, h.ap, h.aq, h.bq, h.qL, h.DLL⟩
/-- more is held -/
theorem TwoD.held (h : TwoD C CK P1 P2 H DL LH q7 (.ref x0 :: E0') cs A B hs) {q q1 D : Addr} {zs : List Str} (ne : zs ≠ []) (ok : ∀ z ∈ zs, PyData.strOk z = true) (h1 : H q = some (.tup [.ref q1, .ref D])) (h2 : H q1 = some (.lst (zs.map V.str))) (h3 : H D = some (.lst (zs.map V.str))) : TwoD C CK P1 P2 (upd H LH (.lst (hs.map V.ref ++ [.ref q]))) DL LH q7 (.ref x0 :: E0') cs A B (hs ++ [q]) := by
  obtain ⟨z, r, rfl⟩ : ∃ z r, zs = z :: r := by
    cases zs with
    | nil => exact absurd rfl ne
    | cons z r => exact ⟨z, r, rfl⟩
  exact ⟨Dk.updL h.a h.hh.1 (Dk.neL h.a) (Dk.nrL h.a) (Dk.nlL h.a), Dk.updL h.b h.hh.1 (Dk.neL h.b) (Dk.nrL h.b) (Dk.nlL h.b), tabG_updL h.t1 h.hh.1, tabG_updL h.t2 h.hh.1, h.hh.add h1 h2 h3 (shp_strs ok), by rw [upd_ne h.DLL]; exact h.hD, by rw [upd_ne h.qL]; exact h.hq, h.ap, h.aq, h.bq, h.qL, h.DLL⟩
/-- a deed of the second desk -/
theorem TwoD.step {H0 H1 H3 H4 : Hp} {n1 : Nat} {r' rw' u' k' l' : Addr} {t' pl' m' : Int} {xs' : List Int} (len : E0'.length = 1) (h : TwoD C CK P1 P2 H0 DL LH q7 (.ref x0 :: E0') cs A B hs) (hD : Seed H0 d n) (o : OffD d q7 A B) (B01 : But d H0 H1) (D1 : Seed H1 d n1) (f : H0 rw' = none) (hr' : H1 r' = some (.tup [.int t', .int pl', .int m'])) (R' : Rule t' pl' m') (hrw' : H1 rw' = some (.lst (xs'.map V.int))) (rg' : Rng m' xs') (ob' : Orbt t' pl' m' xs')
    (kp : Kp P1 P2 B.p B.l (upd H1 B.e (.lst [.ref B.p, .ref r', .ref rw'])) H3) (T1 : GxR.TabG H3 P1) (T2 : GxR.TabG H3 P2) (D3 : DeskAt C CK H3 B.p u' k' l' t' pl' m' xs') (ll : l' = B.l ∨ (upd H1 B.e (.lst [.ref B.p, .ref r', .ref rw'])) l' = none) (s : Same H3 H4) :
    TwoD C CK P1 P2 H4 DL LH q7 (.ref x0 :: E0') cs A ⟨B.e, B.p, r', rw', u', k', l', t', pl', m', xs'⟩ hs ∧ Seed H4 d n1 ∧ OffD d q7 A ⟨B.e, B.p, r', rw', u', k', l', t', pl', m', xs'⟩ ∧
      (∀ b w, (∀ ps, w ≠ HO.tbl ps) → b ≠ B.e → b ≠ B.p → b ≠ B.l → H1 b = some w → H4 b = some w) := by
  have h1 := h.but hD o B01
  obtain ⟨dx, hp1⟩ := h1.b.dk.1
  have hl1 := h1.b.dk.2.2.2
  have en1 := h1.b.en
  obtain ⟨_, _, _, _, ed1, rest⟩ := D1
  have neL := h1.b.neL
  have nde : d ≠ B.e := (ref_ne_int en1 ed1).symm
  have nq7e : q7 ≠ B.e := (ref_ne_ints en1 h1.hq).symm
  have nDLe : DL ≠ B.e := fun z => by
    have h2 := h1.hD
    rw [z, en1] at h2
    have := congrArg (fun o => match o with | some (HO.lst ys) => ys.length | _ => 0) h2
    simp [len] at this
  have npe : B.p ≠ B.e := fun z => by rw [z, en1] at hp1; cases hp1
  have nle : B.l ≠ B.e := (ref_ne_ints en1 hl1).symm
  have nrwe : rw' ≠ B.e := (ref_ne_ints en1 hrw').symm
  have nre : r' ≠ B.e := fun z => by rw [z, en1] at hr'; cases hr'
  have a2 : DkR C CK (upd H1 B.e (.lst [.ref B.p, .ref r', .ref rw'])) LH A := Dk.updL h1.a en1 h.ap.e (fun z => ref_ne_ints en1 h1.a.hrw z.symm) (fun z => ref_ne_ints en1 h1.a.dk.2.2.2 z.symm)
  have t21 := tabG_updL (o := .lst [.ref B.p, .ref r', .ref rw']) h1.t1 en1
  have t22 := tabG_updL (o := .lst [.ref B.p, .ref r', .ref rw']) h1.t2 en1
  have hp2 : (upd H1 B.e (.lst [.ref B.p, .ref r', .ref rw'])) B.p = some (.ins C dx (dkf B.u B.k)) := by rw [upd_ne npe]; exact hp1
  have hl2 : (upd H1 B.e (.lst [.ref B.p, .ref r', .ref rw'])) B.l = some (.lst (B.xs.map V.int)) := by rw [upd_ne nle]; exact hl1
  have hh2 : HeldP (upd H1 B.e (.lst [.ref B.p, .ref r', .ref rw'])) LH hs := by
    refine ⟨by rw [upd_ne (Ne.symm neL)]; exact h1.hh.1, fun x hx => ?_⟩
    obtain ⟨a, b, z, r, e1, e2, e3, sh⟩ := h1.hh.2 x hx
    exact ⟨a, b, z, r, by rw [upd_ne (fun y => by rw [y, en1] at e1; cases e1)]; exact e1, by rw [upd_ne (fun y => by rw [y, en1] at e2; cases e2)]; exact e2, by rw [upd_ne (fun y => by rw [y, en1] at e3; cases e3)]; exact e3, sh⟩
  have keep : ∀ b w, (∀ ps, w ≠ HO.tbl ps) → b ≠ B.e → b ≠ B.p → b ≠ B.l → H1 b = some w → H4 b = some w := fun b w nt n1 n2 n3 e => s _ _ (kp.get t21 t22 (by rw [upd_ne n1]; exact e) nt n2 n3)
  have nlrw : rw' ≠ B.l := fun z => by
    have := h.b.dk.2.2.2
    rw [← z, f] at this
    cases this
  have a3 := Dk.kp a2 t21 t22 hp2 hl2 h.ap.p h.ap.l h.ap.r1 kp
  have en4 : H4 B.e = some (.lst [.ref B.p, .ref r', .ref rw']) := s _ _ (kp.get t21 t22 upd_same (fun ps z => by cases z) (Ne.symm npe) (Ne.symm nle))
  have hr4 := keep _ _ (fun ps z => by cases z) nre (ne_ins hp1 hr' (fun _ _ _ z => by cases z)) (fun z => by rw [z, hl1] at hr'; cases hr') hr'
  have hrw4 := keep _ _ (fun ps z => by cases z) nrwe (ne_ins hp1 hrw' (fun _ _ _ z => by cases z)) nlrw hrw'
  have ndp : d ≠ B.p := fun z => by rw [z, hp1] at ed1; cases ed1
  -- the new list of the kept row is off all
  have off : ∀ b, b ≠ B.l → (∃ w, (upd H1 B.e (.lst [.ref B.p, .ref r', .ref rw'])) b = some w) → l' ≠ b := fun b nb ⟨w, hw⟩ => by
    rcases ll with e | e
    · rw [e]; exact Ne.symm nb
    · intro z
      rw [z, hw] at e
      cases e
  have st : ∀ b w, b ≠ B.e → H1 b = some w → ∃ w, (upd H1 B.e (.lst [.ref B.p, .ref r', .ref rw'])) b = some w := fun b w n e => ⟨w, by rw [upd_ne n]; exact e⟩
  have lL : l' ≠ LH := off _ (Ne.symm h.b.nlL) (st _ _ (Ne.symm neL) h1.hh.1)
  have lq : l' ≠ q7 := off _ (Ne.symm h.bq) (st _ _ nq7e h1.hq)
  have lAl : l' ≠ A.l := off _ h.ap.l (st _ _ (fun z => ref_ne_ints en1 h1.a.dk.2.2.2 z.symm) h1.a.dk.2.2.2)
  have lAr : l' ≠ A.rw := off _ h.ap.r1 (st _ _ (fun z => ref_ne_ints en1 h1.a.hrw z.symm) h1.a.hrw)
  have ld : l' ≠ d := off _ (Ne.symm o.lb) (st _ _ nde ed1)
  have rwL : rw' ≠ LH := fun z => by rw [z, h.hh.1] at f; cases f
  have rwAl : rw' ≠ A.l := fun z => by have := h.a.dk.2.2.2; rw [← z, f] at this; cases this
  have rwd : rw' ≠ d := hD.ne f
  refine ⟨⟨Dk.same a3 s, ⟨en4, D3.same s, hr4, R', hrw4, rg', ob', h1.b.neL, lL, rwL⟩, tabG_same T1 s, tabG_same T2 s, (hh2.kp t21 t22 hp2 hl2 h.b.nlL kp).same s, keep _ _ (fun ps z => by cases z) nDLe (ne_ins hp1 h1.hD (fun _ _ _ z => by cases z)) (ref_ne_ints h1.hD hl1) h1.hD, keep _ _ (fun ps z => by cases z) nq7e (ne_ins hp1 h1.hq (fun _ _ _ z => by cases z)) (Ne.symm h.bq) h1.hq, ⟨h.ap.e, h.ap.p, Ne.symm lAl, Ne.symm lAr, rwAl⟩, h.aq, lq, h.qL, h.DLL⟩, ?_, ⟨o.la, ld, o.ra, rwd, o.q⟩, keep⟩
  exact ⟨_, _, _, _, keep _ _ (fun ps z => by cases z) nde ndp (Ne.symm o.lb) ed1, rest⟩
end
/-- the desks made so far -/
structure ManyD (C CK P1 P2 : Addr) (H : Hp) (DL LH : Addr) (ds : List DR) : Prop where
  all : ∀ x ∈ ds, DkR C CK H LH x
  emp : ∀ x ∈ ds, x.xs = []
  pw : ds.Pairwise Apart
  hD : H DL = some (.lst (ds.map fun x => V.ref x.e))
  hL : H LH = some (.lst [])
  t1 : GxR.TabG H P1
  t2 : GxR.TabG H P2
  DLL : DL ≠ LH
section
variable {C CK P1 P2 : Addr} {H H' : Hp} {DL LH d : Addr} {ds : List DR} {n : Nat}
theorem ManyD.same (h : ManyD C CK P1 P2 H DL LH ds) (s : Same H H') : ManyD C CK P1 P2 H' DL LH ds := ⟨fun x hx => Dk.same (h.all x hx) s, h.emp, h.pw, s _ _ h.hD, s _ _ h.hL, tabG_same h.t1 s, tabG_same h.t2 s, h.DLL⟩
theorem ManyD.seed {H1 H2 : Hp} (h : ManyD C CK P1 P2 H DL LH ds) (s : Same H H1) (nd : H d = none) (hD : Seed H1 d n) (b : But d H1 H2) : ManyD C CK P1 P2 H2 DL LH ds := by
  have h1 := h.same s
  exact ⟨fun x hx => Dk.but (h1.all x hx) hD (ne_free (h.all x hx).hrw nd) (ne_free (h.all x hx).dk.2.2.2 nd) b, h.emp, h.pw, b _ _ (ne_free h.hD nd) h1.hD, b _ _ (ne_free h.hL nd) h1.hL, tabG_butD h1.t1 hD b, tabG_butD h1.t2 hD b, h.DLL⟩
/-- one more desk -/
theorem ManyD.turn {H2 H3 H4 : Hp} {p u k l u' k' l' r rw e dx : Addr} {t pl m : Int} (short : ds.length ≤ 1) (M : ManyD C CK P1 P2 H2 DL LH ds) (s : Same H2 H3) (np : H2 p = none) (nl : H2 l = none) (hd : DeskAt C CK H3 p u k l 0 0 1 []) (kp : Kp P1 P2 p l H3 H4) (T1 : GxR.TabG H4 P1) (T2 : GxR.TabG H4 P2) (D4 : DeskAt C CK H4 p u' k' l' t pl m []) (ll : l' = l ∨ H3 l' = none) (hr : H4 r = some (.tup [.int t, .int pl, .int m])) (R : Rule t pl m) (nrw : H4 rw = none) (ne : (upd H4 rw (.lst [])) e = none) :
    (upd (upd H4 rw (.lst [])) e (.lst [.ref p, .ref r, .ref rw])) DL = some (.lst (ds.map fun x => V.ref x.e)) ∧
    ManyD C CK P1 P2 (upd (upd (upd H4 rw (.lst [])) e (.lst [.ref p, .ref r, .ref rw])) DL (.lst ((ds.map fun x => V.ref x.e) ++ [.ref e]))) DL LH (ds ++ [⟨e, p, r, rw, u', k', l', t, pl, m, []⟩]) := by
  have M3 := M.same s
  obtain ⟨dx, hp3⟩ := hd.1
  have hl3 := hd.2.2.2
  have t1 := same_new (o := .lst []) nrw
  have t2 := same_new (o := .lst [.ref p, .ref r, .ref rw]) ne
  have tt := t1.trans t2
  have hD3 := M3.hD
  have hD4 := kp.get M3.t1 M3.t2 hD3 (fun ps z => by cases z) (ne_free M.hD np) (ne_free M.hD nl)
  have hL4 := kp.get M3.t1 M3.t2 M3.hL (fun ps z => by cases z) (ne_free M.hL np) (ne_free M.hL nl)
  have off : ∀ b w, H2 b = some w → l' ≠ b := fun b w e z => by
    rcases ll with q | q
    · rw [← z, q, nl] at e; cases e
    · rw [z, s _ _ e] at q; cases q
  have off3 : ∀ b w, H3 b = some w → b ≠ l → l' ≠ b := fun b w e nb z => by
    rcases ll with q | q
    · exact nb (z.symm.trans q)
    · rw [z, e] at q; cases q
  have old : ∀ x ∈ ds, DkR C CK H4 LH x := fun x hx => Dk.kp (M3.all x hx) M3.t1 M3.t2 hp3 hl3 (by
    obtain ⟨dx', e⟩ := (M.all x hx).dk.1
    exact ne_free e np) (ne_free (M.all x hx).dk.2.2.2 nl) (ne_free (M.all x hx).hrw nl) kp
  have nDe : DL ≠ e := ne_free (t1 _ _ hD4) ne
  have nDr : DL ≠ rw := ne_free hD4 nrw
  refine ⟨tt _ _ hD4, ⟨fun x hx => ?_, fun x hx => ?_, ?_, by rw [upd_same, List.map_append]; rfl, by rw [upd_ne (Ne.symm M.DLL)]; exact tt _ _ hL4, tabG_updL (tabG_same T1 tt) (tt _ _ hD4), tabG_updL (tabG_same T2 tt) (tt _ _ hD4), M.DLL⟩⟩
  · rcases List.mem_append.mp hx with hx | hx
    · obtain ⟨y, rfl⟩ : ∃ y, ds = [y] := by
        match ds, short, hx with
        | [y], _, _ => exact ⟨y, rfl⟩
      have ey := List.mem_singleton.mp hx
      subst ey
      have o := Dk.same (old x (List.mem_singleton.mpr rfl)) tt
      refine Dk.updL o (tt _ _ hD4) (fun z => ?_) (fun z => ref_ne_ints (tt _ _ hD4) o.hrw z.symm) (fun z => ref_ne_ints (tt _ _ hD4) o.dk.2.2.2 z.symm)
      have h1 := o.en
      rw [z, tt _ _ hD4] at h1
      have h2 := congrArg (fun o => match o with | some (HO.lst ys) => ys.length | _ => 0) h1
      simp at h2
    · have ey := List.mem_singleton.mp hx
      subst ey
      have ob : Orbt t pl m [] := orbt_nil
      have o : Dk C CK (upd (upd H4 rw (.lst [])) e (.lst [.ref p, .ref r, .ref rw])) LH e p r rw u' k' l' t pl m [] := ⟨upd_same, D4.same tt, tt _ _ hr, R, t2 _ _ upd_same, (fun x hx => by cases hx), ob, Ne.symm (ne_free (t1 _ _ hL4) ne), off _ _ M.hL, Ne.symm (ne_free hL4 nrw)⟩
      exact Dk.updL o (tt _ _ hD4) (Ne.symm nDe) (Ne.symm nDr) (off _ _ M.hD)
  · rcases List.mem_append.mp hx with hx | hx
    · exact M.emp x hx
    · rw [List.mem_singleton.mp hx]
  · refine List.pairwise_append.mpr ⟨M.pw, List.pairwise_singleton .., fun x hx y hy => ?_⟩
    rw [List.mem_singleton.mp hy]
    have o4 := old x hx
    have o2 := M.all x hx
    obtain ⟨dx', e2⟩ := o2.dk.1
    exact ⟨ne_free (t1 _ _ o4.en) ne, ne_free e2 np, Ne.symm (off _ _ o2.dk.2.2.2), Ne.symm (off _ _ o2.hrw), Ne.symm (ne_free o4.dk.2.2.2 nrw)⟩
/-- two desks, two -/
theorem ManyD.two {q7 : Addr} {cs : List Int} {A B : DR} (h : ManyD C CK P1 P2 H DL LH [A, B]) (s : Same H H') (nq : H q7 = none) (hq : H' q7 = some (.lst (cs.map V.int))) : TwoD C CK P1 P2 H' DL LH q7 [.ref A.e, .ref B.e] cs A B [] :=
  have h' := h.same s
  ⟨h'.all A (by simp), h'.all B (by simp), h'.t1, h'.t2, HeldP.nil h'.hL, h'.hD, hq, (List.pairwise_cons.mp h.pw).1 B (by simp), ne_free (h.all A (by simp)).dk.2.2.2 nq, ne_free (h.all B (by simp)).dk.2.2.2 nq, Ne.symm (ne_free h.hL nq), h.DLL⟩
end
theorem ques_short {t pl m : Int} {xs : List Int} {line : List Nat} {zs : List Str} (m0 : 0 < m) (h : QuesK t pl m xs line zs) : zs.length ≤ 2001 := by
  rcases h with ⟨_, _, rfl⟩ | ⟨_, _, _, _, rfl⟩ | ⟨_, _, _, _, _, _, _, rfl⟩ | ⟨_, _, _, _, _, _, _, rfl⟩ | ⟨_, _, _, _, _, rfl⟩ | ⟨ps, h, rd, _, rfl⟩ | ⟨_, _, _, rfl⟩ | ⟨_, rfl⟩
  case inr.inr.inr.inr.inr.inl =>
    have := rds_short m0 rd
    unfold pairsS
    rw [List.length_map]
    omega
  all_goals show 1 ≤ 2001; decide
theorem strs_ne_ints {H : Hp} {a b : Addr} {zs : List Str} {xs : List Int} (ne : zs ≠ []) (ha : H a = some (.lst (zs.map V.str))) (hb : H b = some (.lst (xs.map V.int))) : a ≠ b := fun z => by
  rw [z, hb] at ha
  match zs, xs, ha with
  | [], _, _ => exact ne rfl
  | _ :: _, [], ha => cases ha
  | _ :: _, _ :: _, ha => cases ha
theorem strs_ne_ref {H : Hp} {a b x : Addr} {zs : List Str} {ys : List V} (ne : zs ≠ []) (ha : H a = some (.lst (zs.map V.str))) (hb : H b = some (.lst (.ref x :: ys))) : a ≠ b := fun z => by
  rw [z, hb] at ha
  match zs, ha with
  | [], _ => exact ne rfl
  | _ :: _, ha => cases ha
end Tw


namespace Tw
open PySem PySem.Spec PyProof.Rows L2
def topS (i : Nat) : Stmt := PySem.Challenge.pw_timesrow_k39_whole_two_desks.main.body.getD i (.Pass ⟨0, 0, 0, 0⟩)
abbrev s_seed : Stmt := topS 70
theorem sc_seed : FnScope ["cell", "number"] ["cell"] (defScope s_seed) := ⟨rfl, rfl, rfl, by decide +kernel, rfl, by decide +kernel, by decide +kernel⟩
abbrev s_draw : Stmt := topS 71
theorem sc_draw : FnScope ["seed", "most", "found", "number"] ["seed", "most"] (defScope s_draw) := ⟨rfl, rfl, rfl, by decide +kernel, rfl, by decide +kernel, by decide +kernel⟩
abbrev s_cells : Stmt := topS 72
theorem sc_cells : FnScope ["script", "many"] ["script", "many"] (defScope s_cells) := ⟨rfl, rfl, rfl, by decide +kernel, rfl, by decide +kernel, by decide +kernel⟩
abbrev s_far : Stmt := topS 73
theorem sc_far : FnScope ["seed", "most"] ["seed", "most"] (defScope s_far) := ⟨rfl, rfl, rfl, by decide +kernel, rfl, by decide +kernel, by decide +kernel⟩
abbrev s_rule : Stmt := topS 74
theorem sc_rule : FnScope ["seed", "most", "kind", "bound", "some", "times", "plus"] ["seed", "most"] (defScope s_rule) := ⟨rfl, rfl, rfl, by decide +kernel, rfl, by decide +kernel, by decide +kernel⟩
abbrev s_next : Stmt := topS 75
theorem sc_next : FnScope ["rule", "number"] ["rule", "number"] (defScope s_next) := ⟨rfl, rfl, rfl, by decide +kernel, rfl, by decide +kernel, by decide +kernel⟩
abbrev s_row : Stmt := topS 76
theorem sc_row : FnScope ["rule", "start", "many", "found"] ["rule", "start", "many"] (defScope s_row) := ⟨rfl, rfl, rfl, by decide +kernel, rfl, by decide +kernel, by decide +kernel⟩
abbrev s_line : Stmt := topS 80
theorem sc_line : FnScope ["rule", "times", "plus", "bound"] ["rule"] (defScope s_line) := ⟨rfl, rfl, rfl, by decide +kernel, rfl, by decide +kernel, by decide +kernel⟩
/-- the line that lays a rule -/
def pLineD (K : PySem.W.Frag) : V → Hp → VK → XK → Prop := fun a H Q _ => ∃ (r : Addr) (t p m : Int), a = .ref r ∧ SqT K H r [.int t, .int p, .int m] ∧ Rule t p m ∧ Q (.str (SX.S (headL ++ shw t p m))) H
/-- a rule drawn -/
def pRuleD : V → V → Hp → VK → XK → Prop := fun a b H Q _ => ∃ (d : Addr) (n : Nat) (m : Int), a = .ref d ∧ b = .int m ∧ 1 ≤ m ∧ m ≤ 1000000000000 ∧ Seed H d n ∧ n + 30 ≤ 100000000 ∧
  ∀ (H' : Hp) (r : Addr) (t p k : Int), But d H H' → Seed H' d (n + 30) → H r = none → H' r = some (.tup [.int t, .int p, .int k]) → Rule t p k → k ≤ m → Q (.ref r) H'
def pNextD (K : PySem.W.Frag) : V → V → Hp → VK → XK → Prop := fun a b H Q _ => ∃ (r : Addr) (t p m n : Int), a = .ref r ∧ b = .int n ∧ SqT K H r [.int t, .int p, .int m] ∧ Rule t p m ∧ 0 ≤ n ∧ n < m ∧ Q (.int (stp t p m n)) H
/-- the first cells, and how many there are -/
def pCells (K : PySem.W.Frag) : V → V → Hp → VK → XK → Prop := fun a b H Q _ => ∃ (sa : Addr) (xs : List Int) (n : Nat), a = .ref sa ∧ b = .int (n : Int) ∧ SqL K H sa (xs.map V.int) ∧ xs.length ≤ 63 ∧ n ≤ 63 ∧ ∀ H' q, Same H H' → H q = none → H' q = some (.lst ((xs.take n ++ [(xs.length : Int)]).map V.int)) → Q (.ref q) H'
section
variable {P : Program} {w : World} {K : PySem.W.Frag} {mg : Str → Option Value} {base : Heap}
theorem ok_seed (D : Top K mg "_law_seed" s_seed ["cell"]) (z_max : mg "max" = none) (z_int : mg "int" = none) : Has P w K mg base CX0 1 "_law_seed" ["cell"] (sp1 pSeed) := by
  refine D.ok1 sc_seed (fun f cdv A outer s H v1 Q E hr h => ?_)
  obtain ⟨c, rfl, q⟩ := h
  refine ⟨_, (pss_cons (ps_set (i := 1) sc_seed.nd rfl (.inl rfl) (pe_callB (id := "max") (call_max2 rfl) (by rfl) z_max (by decide +kernel) (pa_cons (pv 0) (pa_cons (pe_op op_sub pe_int (pv 0)) pa_nil))))
 (pss_one (ps_ret (pe_lst (pa_cons (pv 1) (pa_cons (pe_callTy call_int1 (by rfl) z_int (by decide +kernel) (pa_cons (pe_cmpR op_ge (pv 1) (pe_op op_pow pe_int pe_int) (nomark _)) pa_nil)) (pa_cons pe_int (pa_cons (pe_op op_mod (pv 0) pe_int) pa_nil)))))))), ?_⟩
  have b1 := mod_bd c (b := 1999999829) (by decide)
  refine ⟨_, rfl, _, rfl, _, _, rfl, rfl, _, _, rfl, ?_⟩
  refine ⟨_, rfl, _, rfl, _, _, rfl, rfl, ⟨by decide, by decide, by decide⟩, _, _, rfl, rfl, .inr ⟨_, rfl, ?_⟩⟩
  refine ⟨_, rfl, _, _, rfl, rfl, by show (0:Int) < _; decide, by show 4 ≤ sizeLine; decide, fun d nd => ?_⟩
  refine q _ d (same_new nd) nd ⟨_, _, _, _, upd_same, ?_, by omega, by omega, by omega, by omega⟩
  by_cases e : 0 - c > c
  · rw [if_pos e]; omega
  · rw [if_neg e]; omega
theorem ok_draw (D : Top K mg "_law_draw" s_draw ["seed", "most"]) : Has P w K mg base CX0 1 "_law_draw" ["seed", "most"] (sp2 (pDrw 1)) := by
  refine D.ok2 sc_draw (fun f cdv A outer s H v1 v2 Q E hr h => ?_)
  obtain ⟨d, n, m, rfl, rfl, m0, m1, hD, hn, q⟩ := h
  refine ⟨_, (pss_cons (ps_asg (pe_op op_add (pe_ix ix_list (pv 0) pe_int (fun _ _ => rfl)) pe_int) (pg_sub (pv 0) pe_int set_list))
 (pss_cons (ps_if (PW.pt (pw_and (pt_cmpR op_eq (pe_ix ix_list (pv 0) pe_int (fun _ _ => rfl)) pe_int (nomark _)) (pw_and1 (pt_cmpR op_gt (pe_ix ix_list (pv 0) pe_int (fun _ _ => rfl)) pe_int (nomark _))))) (pss_cons (ps_set (i := 2) sc_draw.nd rfl (.inl rfl) (pe_op op_mod (pe_ix ix_list (pv 0) pe_int (fun _ _ => rfl)) (pv 1)))
 (pss_cons (ps_asg (pe_op op_fdivB (pe_ix ix_list (pv 0) pe_int (fun _ _ => rfl)) (pv 1)) (pg_sub (pv 0) pe_int set_list))
 (pss_one (ps_ret (pv 2))))) pss_nil)
 (pss_cons (ps_set (i := 3) sc_draw.nd rfl (.inl rfl) (pe_op op_mod (pe_op op_mulB (pe_op op_add (pe_op op_add (pe_ix ix_list (pv 0) pe_int (fun _ _ => rfl)) (pe_op op_mulB pe_int (pe_ix ix_list (pv 0) pe_int (fun _ _ => rfl)))) pe_int) pe_int) pe_int))
 (pss_cons (ps_set (i := 3) sc_draw.nd rfl (.inl rfl) (pe_op op_mod (pe_op op_mulB (pe_op op_mod (pe_op op_mulB (pv 3) (pv 3)) pe_int) pe_int) pe_int))
 (pss_one (ps_ret (pe_op op_mod (pe_op op_fdivB (pv 3) pe_int) (pv 1)))))))), ?_⟩
  have nh := hD.nohd
  obtain ⟨r, fl, k, c, hd, r0, k0, k1, c0, c1⟩ := hD
  refine ⟨_, rfl, d, _, 2, .int k, rfl, rfl, SqL.of hd, rfl, _, _, rfl, rfl, _, rfl, d, _, 2, 2, rfl, rfl, hd, rfl, ?_⟩
  have B1 : But d H (upd H d (.lst [.int r, .int fl, .int (k + 1), .int c])) := but_mut (But.refl d H) (fun c' hc => absurd hc (nh c'))
  have nh1 : ∀ c', ¬ At (upd H d (.lst [.int r, .int fl, .int (k + 1), .int c])) d c' := fun c' hc => by
    obtain ⟨_, e⟩ := hc
    rw [upd_same] at e
    cases e
  have mx : ∀ (v : Int), 0 ≤ v → v < m → Q (.int v) (upd H d (.lst [.int r, .int fl, .int (k + 1), .int c])) := fun v v0 v1 => q _ v B1 ⟨r, fl, k + 1, c, upd_same, r0, by omega, by omega, c0, c1⟩ v0 v1
  refine ⟨_, rfl, d, _, 1, .int fl, rfl, rfl, SqL.of upd_same, rfl, rfl, _, rfl, ifI (fun e1 => ⟨_, rfl, d, _, 0, .int r, rfl, rfl, SqL.of upd_same, rfl, _, _, rfl, rfl, _, rfl, ifD (fun e2 => ?great) (fun e2 => ?m1)⟩) (fun e1 => ?m2)⟩
  case great =>
    refine ⟨_, rfl, d, _, 0, .int r, rfl, rfl, SqL.of upd_same, rfl, _, rfl, _, _, rfl, rfl, m0, ?_⟩
    refine ⟨_, rfl, d, _, 0, .int r, rfl, rfl, SqL.of upd_same, rfl, _, rfl, _, _, rfl, rfl, ⟨m0, m1⟩, _, rfl, d, _, 0, 0, rfl, rfl, upd_same, rfl, ?_⟩
    have bv := mod_bd r m0
    exact ⟨_, rfl, q _ _ (but_mut B1 (fun c' hc => absurd hc (nh1 c'))) ⟨_, fl, k + 1, c, upd_same, Int.ediv_nonneg r0 (by omega), by omega, by omega, c0, c1⟩ bv.1 bv.2⟩
  all_goals
    refine ⟨_, rfl, d, _, 3, .int c, rfl, rfl, SqL.of upd_same, rfl, _, rfl, d, _, 2, .int (k + 1), rfl, rfl, SqL.of upd_same, rfl, _, _, rfl, rfl, ⟨by unfold Big; omega, by unfold Big; omega⟩, _, _, rfl, rfl, _, _, rfl, rfl, _, _, rfl, rfl, ⟨by unfold Big; omega, by unfold Big; omega⟩, _, _, rfl, rfl, by show (0:Int) < _; decide, ?_⟩
    generalize (c + 7573 * (k + 1) + 61) * 48271 = z1
    have b1 := mod_bd z1 (b := 2147483647) (by decide)
    refine ⟨_, rfl, _, rfl, _, _, rfl, rfl, ⟨by unfold Big; omega, by unfold Big; omega⟩, _, _, rfl, rfl, by show (0:Int) < _; decide, ?_⟩
    generalize z1 % 2147483647 * (z1 % 2147483647) = z2
    have b2 := mod_bd z2 (b := 2147483629) (by decide)
    refine ⟨_, _, rfl, rfl, ⟨by unfold Big; omega, by unfold Big; omega⟩, _, _, rfl, rfl, by show (0:Int) < _; decide, ?_⟩
    refine ⟨_, rfl, _, _, rfl, rfl, ⟨by decide, by decide⟩, _, rfl, _, _, rfl, rfl, m0, ?_⟩
    have b3 := mod_bd (z2 % 2147483629 * 40692 % 2147483399 / 7) m0
    exact mx _ b3.1 b3.2
theorem ok_far (D : Top K mg "_law_far" s_far ["seed", "most"]) (h_draw : Has P w K mg base CX0 1 "_law_draw" ["seed", "most"] (sp2 (pDrw 1))) : Has P w K mg base CX0 2 "_law_far" ["seed", "most"] (sp2 (pDrw 2)) := by
  refine D.ok2 sc_far (fun f cdv A outer s H v1 v2 Q E hr h => ?_)
  obtain ⟨d, n, m, rfl, rfl, m0, m1, hD, hn, q⟩ := h
  refine ⟨_, (pss_one (ps_ret (pe_op op_mod (pe_op op_add (pe_op op_mulB (pe_own h_draw (hr.mono (by decide)) pass0 (pa_cons (pv 0) (pa_cons (pe_op op_pow pe_int pe_int) pa_nil))) (pe_op op_pow pe_int pe_int)) (pe_own h_draw (hr.mono (by decide)) pass0 (pa_cons (pv 0) (pa_cons (pe_op op_pow pe_int pe_int) pa_nil)))) (pv 1)))), ?_⟩
  have z : (10 : Int) ^ (6 : Int).toNat = 1000000 := by decide
  refine ⟨_, rfl, _, _, rfl, rfl, ⟨by decide, by decide, by decide⟩, _, _, rfl, d, n, _, rfl, rfl, by decide, by decide, hD, by omega, fun H1 v B1 D1 v0 v1 => ?_⟩
  rw [z] at v1
  refine ⟨_, _, rfl, rfl, ⟨by decide, by decide, by decide⟩, _, _, rfl, rfl, ⟨by unfold Big; omega, show Big 1000000 from ⟨by decide, by decide⟩⟩, ?_⟩
  refine ⟨_, rfl, _, _, rfl, rfl, ⟨by decide, by decide, by decide⟩, _, _, rfl, d, n + 1, _, rfl, rfl, by decide, by decide, D1, by omega, fun H2 u B2 D2 u0 u1 => ?_⟩
  refine ⟨_, _, rfl, rfl, _, rfl, _, _, rfl, rfl, m0, ?_⟩
  have bv := mod_bd (v * 10 ^ (6 : Int).toNat + u) m0
  exact q _ _ (B1.trans B2) D2 bv.1 bv.2
theorem ok_cells (D : Top K mg "_law_cells" s_cells ["script", "many"]) (z_len : mg "len" = none) : Has P w K mg base CX0 1 "_law_cells" ["script", "many"] (sp2 (pCells K)) := by
  refine D.ok2 sc_cells (fun f cdv A outer s H v1 v2 Q E hr h => ?_)
  obtain ⟨sa, xs, n, rfl, rfl, hS, hl, n1, q⟩ := h
  refine ⟨_, (pss_one (ps_ret (pe_op op_cat (pe_slice sl_list (pv 0) po_none (po_some (pv 1))) (pe_lst (pa_cons (pe_callB (id := "len") call_len_seq (by rfl) z_len (by decide +kernel) (pa_cons (pv 0) pa_nil)) pa_nil))))), ?_⟩
  refine ⟨_, rfl, _, rfl, _, rfl, ?_⟩
  refine ⟨sa, _, rfl, hS, fun l nl => ?_⟩
  rw [show cutV (xs.map V.int) none (some (n : Int)) = (xs.take n).map V.int from cut_takeI xs n]
  have s1 := same_new (o := .lst ((xs.take n).map V.int)) nl
  refine ⟨_, rfl, sa, _, rfl, .inl (s1.seq hS), by show 1 ≤ sizeLine; decide, fun l2 nl2 => ?_⟩
  have s2 := same_new (o := .lst [.int ((xs.map V.int).length : Int)]) nl2
  refine ⟨l, l2, _, _, rfl, rfl, s2 _ _ upd_same, upd_same, ?_, fun q1 nq1 => ?_⟩
  · rw [List.length_map, List.length_take]
    show _ + 1 ≤ sizeLine
    have : min n xs.length ≤ 63 := by omega
    exact Nat.le_trans (Nat.add_le_add_right this 1) (by decide)
  · rw [List.length_map] at *
    refine q _ q1 (s1.trans (s2.trans (same_new nq1))) (s1.free (s2.free nq1)) ?_
    rw [upd_same, List.map_append]
    rfl
theorem ok_next (D : Top K mg "_law_next" s_next ["rule", "number"]) : Has P w K mg base CX0 1 "_law_next" ["rule", "number"] (sp2 (pNextD K)) := by
  refine D.ok2 sc_next (fun f cdv A outer s H v1 v2 Q E hr h => ?_)
  obtain ⟨r, t, p, m, n, rfl, rfl, hr1, R, n0, n1, q⟩ := h
  refine ⟨_, (pss_one (ps_ret (pe_op op_mod (pe_op op_add (pe_op op_mulB (pe_ix ix_tup (pv 0) pe_int (fun _ _ => rfl)) (pv 1)) (pe_ix ix_tup (pv 0) pe_int (fun _ _ => rfl))) (pe_ix ix_tup (pv 0) pe_int (fun _ _ => rfl))))), ?_⟩
  have m0 : 0 < m := by have := R.b1; omega
  have := R.b2
  have := R.t0
  have := R.t1
  exact ⟨_, rfl, r, _, 0, .int t, rfl, rfl, hr1, rfl, _, rfl, _, _, rfl, rfl, ⟨by unfold Big; omega, by unfold Big; omega⟩, _, rfl, r, _, 1, .int p, rfl, rfl, hr1, rfl, _, _, rfl, rfl, _, rfl, r, _, 2, .int m, rfl, rfl, hr1, rfl, _, _, rfl, rfl, m0, q⟩
theorem ok_row (D : Top K mg "_law_row" s_row ["rule", "start", "many"]) (h_next : Has P w K mg base CX0 1 "_law_next" ["rule", "number"] (sp2 (pNextD K))) (z_len : mg "len" = none) : Has P w K mg base CX0 2 "_law_row" ["rule", "start", "many"] (sp3 (pWalkF K)) := by
  refine D.ok3 sc_row (fun f cdv A outer s H v1 v2 v3 Q E hr h => ?_)
  obtain ⟨r, t, p, m, s0, n, rfl, rfl, rfl, hr1, R, a0, a1, n0, n1, q⟩ := h
  refine ⟨_, (pss_cons (ps_set (i := 3) sc_row.nd rfl (.inl rfl) (pe_lst (pa_cons (pv 1) pa_nil)))
 (pss_cons (ps_while PassesOwn.never (pt_cmpR op_lt (pe_callB (id := "len") call_len_seq (by rfl) z_len (by decide +kernel) (pa_cons (pv 3) pa_nil)) (pv 2) (nomark _)) (pss_one (ps_expr (pe_bm PySem.F.plainAttrs_list PySem.F.slot_list_append PySem.F.type_list_append mt_append (pv 3) (pa_cons (pe_own h_next (hr.mono (by decide)) pass0 (pa_cons (pv 0) (pa_cons (pe_ix ix_list (pv 3) (pe_un un_neg pe_int) (fun _ _ => rfl)) pa_nil))) pa_nil)))))
 (pss_one (ps_ret (pv 3))))), ?_⟩
  have m0 : 0 < m := by have := R.b1; omega
  refine ⟨_, rfl, by show 1 ≤ sizeLine; decide, fun l nl => ?_⟩
  have e1 : (.lst [.int s0] : HO) = .lst ((orb (stp t p m) 1 s0).map V.int) := rfl
  refine ⟨fun k σ H' => ∃ i : Nat, σ = [some (.ref r), some (.int s0), some (.int n), some (.ref l)] ∧ H' = upd H l (.lst ((orb (stp t p m) i s0).map V.int)) ∧ 1 ≤ i ∧ (i : Int) ≤ n ∧ k = n.toNat - i, ⟨n.toNat - 1, 1, rfl, by rw [e1], by omega, by omega, rfl⟩, ?_⟩
  rintro k σ H' ⟨i, rfl, rfl, i0, i1, rfl⟩
  have sm : Same H (upd H l (.lst ((orb (stp t p m) i s0).map V.int))) := same_new nl
  refine ⟨_, rfl, l, _, rfl, .inl (SqL.of upd_same), _, rfl, _, _, rfl, rfl, _, rfl, ifD (fun lt => ?_) (fun ge => ?_)⟩
  · rw [List.length_map, orb_len] at lt
    obtain ⟨j, rfl⟩ : ∃ j, i = j + 1 := ⟨i - 1, by omega⟩
    have ir := itr_rng (t := t) (p := p) m0 ⟨a0, a1⟩ j
    have ej : atI ((orb (stp t p m) (j + 1) s0).map V.int) (-1) = some (.int (itr (stp t p m) j s0)) := by
      rw [orb_succ, List.map_append]
      exact atI_last _ _
    refine ⟨fun σ' H1 => ∃ k', k' < n.toNat - (j + 1) ∧ ∃ i : Nat, σ' = [some (.ref r), some (.int s0), some (.int n), some (.ref l)] ∧ H1 = upd H l (.lst ((orb (stp t p m) i s0).map V.int)) ∧ 1 ≤ i ∧ (i : Int) ≤ n ∧ k' = n.toNat - i, fun _ _ z => z, ?_⟩
    refine ⟨_, rfl, .inl ⟨rfl, _, SqL.of upd_same⟩, _, rfl, _, rfl, _, rfl, l, _, -1, _, rfl, rfl, SqL.of upd_same, ej, _, _, rfl, r, t, p, m, _, rfl, rfl, sm.tup hr1, R, ir.1, ir.2, l, _, _, rfl, rfl, upd_same, szl (by rw [List.length_map, orb_len]; omega), ?_⟩
    refine ⟨n.toNat - (j + 2), by omega, j + 2, rfl, ?_, by omega, by omega, rfl⟩
    rw [upd_upd, orb_succ _ (j + 1), List.map_append]
    rfl
  · rw [List.length_map, orb_len] at ge
    have e : i = n.toNat := by omega
    subst e
    exact ⟨_, rfl, q _ l sm nl upd_same⟩
theorem ok_rule (D : Top K mg "_law_rule" s_rule ["seed", "most"]) (h_draw : Has P w K mg base CX0 1 "_law_draw" ["seed", "most"] (sp2 (pDrw 1))) (h_far : Has P w K mg base CX0 2 "_law_far" ["seed", "most"] (sp2 (pDrw 2))) (z_min : mg "min" = none) :
    Has P w K mg base CX0 3 "_law_rule" ["seed", "most"] (sp2 pRuleD) := by
  refine D.ok2 sc_rule (fun f cdv A outer s H v1 v2 Q E hr h => ?_)
  obtain ⟨d, n, m, rfl, rfl, m0, m1, hD, hn, q⟩ := h
  refine ⟨_, (pss_cons (ps_set (i := 2) sc_rule.nd rfl (.inl rfl) (pe_own h_draw (hr.mono (by decide)) pass0 (pa_cons (pv 0) (pa_cons pe_int pa_nil))))
 (pss_cons (ps_set (i := 3) sc_rule.nd rfl (.inl rfl) (pe_op op_add pe_int (pe_own h_draw (hr.mono (by decide)) pass0 (pa_cons (pv 0) (pa_cons (pe_callB (id := "min") (call_min2 rfl) (by rfl) z_min (by decide +kernel) (pa_cons (pv 1) (pa_cons pe_int pa_nil))) pa_nil)))))
 (C8.pss_cut (ps_if (pt_cmpR op_eq (pv 2) pe_int (nomark _)) (pss_one (ps_set (i := 3) sc_rule.nd rfl (.inl rfl) (pe_ix ix_list (pe_lst (pa_cons pe_int (pa_cons pe_int (pa_cons pe_int (pa_cons pe_int (pa_cons pe_int (pa_cons pe_int (pa_cons pe_int (pa_cons pe_int (pa_cons pe_int (pa_cons pe_int (pa_cons pe_int (pa_cons pe_int (pa_cons pe_int (pa_cons pe_int (pa_cons pe_int (pa_cons pe_int pa_nil))))))))))))))))) (pe_own h_draw (hr.mono (by decide)) pass0 (pa_cons (pv 0) (pa_cons pe_int pa_nil))) (fun _ _ => rfl)))) pss_nil)
 (C8.pss_cut (ps_if (pt_cmpR op_gt (pv 2) pe_int (nomark _)) (pss_one (ps_set (i := 3) sc_rule.nd rfl (.inl rfl) (pe_op op_add pe_int (pe_own h_far (hr.mono (by decide)) pass0 (pa_cons (pv 0) (pa_cons (pv 1) pa_nil)))))) pss_nil)
 (pss_cons (ps_set (i := 3) sc_rule.nd rfl (.inl rfl) (pe_callB (id := "min") (call_min2 rfl) (by rfl) z_min (by decide +kernel) (pa_cons (pv 3) (pa_cons (pv 1) pa_nil))))
 (pss_cons (ps_set (i := 4) sc_rule.nd rfl (.inl rfl) (pe_lst (pa_cons pe_int (pa_cons pe_int (pa_cons (pe_op op_sub (pv 3) pe_int) (pa_cons pe_int (pa_cons (pe_op op_fdivB (pv 3) pe_int) (pa_cons (pe_op op_add (pe_op op_fdivB (pv 3) pe_int) pe_int) (pa_cons (pe_op op_add pe_int (pe_op op_fdivB (pv 3) pe_int)) (pa_cons (pe_own h_far (hr.mono (by decide)) pass0 (pa_cons (pv 0) (pa_cons (pv 3) pa_nil))) pa_nil))))))))))
 (pss_cons (ps_set (i := 5) sc_rule.nd rfl (.inl rfl) (pe_op op_mod (pe_ix ix_list (pv 4) (pe_own h_draw (hr.mono (by decide)) pass0 (pa_cons (pv 0) (pa_cons pe_int pa_nil))) (fun _ _ => rfl)) (pv 3)))
 (pss_cons (ps_set (i := 6) sc_rule.nd rfl (.inl rfl) (pe_op op_mod (pe_ix ix_list (pe_lst (pa_cons pe_int (pa_cons pe_int (pa_cons (pe_own h_far (hr.mono (by decide)) pass0 (pa_cons (pv 0) (pa_cons (pv 3) pa_nil))) (pa_cons (pe_own h_far (hr.mono (by decide)) pass0 (pa_cons (pv 0) (pa_cons (pv 3) pa_nil))) pa_nil))))) (pe_own h_draw (hr.mono (by decide)) pass0 (pa_cons (pv 0) (pa_cons pe_int pa_nil))) (fun _ _ => rfl)) (pv 3)))
 (pss_one (ps_ret (pe_tup (pa_cons (pv 5) (pa_cons (pv 6) (pa_cons (pv 3) pa_nil)))))))))))))), ?_⟩
  refine ⟨_, rfl, _, _, rfl, d, n, 4, rfl, rfl, by decide, by decide, hD, by omega, fun H1 k B1 D1 k0 k1 => ?_⟩
  refine ⟨_, rfl, _, rfl, _, _, rfl, ?_⟩
  generalize eg : (if (30 : Int) < m then (30 : Int) else m) = g
  have gb : 1 ≤ g ∧ g ≤ 30 ∧ g ≤ m := by rw [← eg]; by_cases c : (30 : Int) < m; · rw [if_pos c]; omega
                                         · rw [if_neg c]; omega
  refine ⟨_, _, rfl, d, n + 1, g, rfl, rfl, by omega, by omega, D1, by omega, fun H2 v B2 D2 v0 v1 => ?_⟩
  refine ⟨_, _, rfl, rfl, ?_⟩
  have B02 := B1.trans B2
  refine ⟨fun σ' H' => ∃ b : Int, σ' = [some (.ref d), some (.int m), some (.int k), some (.int b), none, none, none] ∧ But d H H' ∧ Seed H' d (n + 3) ∧ 1 ≤ b ∧ b ≤ 1000000000000, ?_, ?_⟩
  · refine ⟨_, rfl, rfl, _, rfl, ifI (fun e => ?_) (fun e => ?_)⟩
    · refine ⟨by show 16 ≤ sizeLine; decide, fun l nl => ?_⟩
      have s1 := same_new (o := .lst [.int 12, .int 16, .int 24, .int 27, .int 36, .int 64, .int 72, .int 81, .int 100, .int 128, .int 210, .int 256, .int 360, .int 1000, .int 1024, .int 2000]) nl
      refine ⟨_, rfl, _, _, rfl, d, n + 2, 16, rfl, rfl, by decide, by decide, D2.same s1, by omega, fun H3 u B3 D3 u0 u1 => ?_⟩
      obtain ⟨x, hx, ex⟩ := at_ints (ns := [12, 16, 24, 27, 36, 64, 72, 81, 100, 128, 210, 256, 360, 1000, 1024, 2000]) u0 (by show u < 16; exact u1)
      have bx : 1 ≤ x ∧ x ≤ 2000 := (by decide : ∀ x ∈ ([12, 16, 24, 27, 36, 64, 72, 81, 100, 128, 210, 256, 360, 1000, 1024, 2000] : List Int), 1 ≤ x ∧ x ≤ 2000) x hx
      have hl := B3 _ _ (D2.ne nl) upd_same
      exact ⟨l, _, u, _, rfl, rfl, SqL.of hl, ex, x, rfl, B02.trans (s1.but.trans B3), D3, bx.1, by omega⟩
    · exact ⟨1 + v, rfl, B02, D2.mono (by omega), by omega, by omega⟩
  rintro σ' H3 ⟨b, rfl, B3, D3, b0, b1⟩
  refine ⟨fun σ' H' => ∃ b : Int, σ' = [some (.ref d), some (.int m), some (.int k), some (.int b), none, none, none] ∧ But d H H' ∧ Seed H' d (n + 5) ∧ 1 ≤ b ∧ b ≤ 1000000000000, ?_, ?_⟩
  · refine ⟨_, rfl, _, _, rfl, rfl, _, rfl, ifD (fun e => ?_) (fun e => ?_)⟩
    · refine ⟨_, rfl, _, rfl, _, _, rfl, d, n + 3, m, rfl, rfl, by omega, by omega, D3, by omega, fun H4 u B4 D4 u0 u1 => ?_⟩
      exact ⟨_, _, rfl, rfl, 1 + u, rfl, B3.trans B4, D4, by omega, by omega⟩
    · exact ⟨b, rfl, B3, D3.mono (by omega), b0, b1⟩
  rintro σ' H4 ⟨b2, rfl, B4, D4, b20, b21⟩
  refine ⟨_, rfl, _, rfl, _, _, rfl, ?_⟩
  generalize eg2 : (if m < b2 then m else b2) = c
  have cb : 1 ≤ c ∧ c ≤ m := by rw [← eg2]; by_cases z : m < b2; · rw [if_pos z]; omega
                                · rw [if_neg z]; omega
  refine ⟨_, rfl, _, _, rfl, rfl, ?_⟩
  refine ⟨_, rfl, _, _, rfl, rfl, ⟨by decide, by decide⟩, ?_⟩
  refine ⟨_, rfl, _, _, rfl, rfl, ⟨by decide, by decide⟩, _, _, rfl, rfl, ?_⟩
  refine ⟨_, rfl, _, _, rfl, rfl, ⟨by decide, by decide⟩, _, _, rfl, rfl, ?_⟩
  refine ⟨_, rfl, _, rfl, _, _, rfl, d, n + 5, c, rfl, rfl, by omega, by omega, D4, by omega, fun H5 y B5 D5 y0 y1 => ?_⟩
  refine ⟨by show 8 ≤ sizeLine; decide, fun l nl => ?_⟩
  have s1 := same_new (o := .lst (([0, 1, c - 1, 2, c / 2, c / 2 + 1, 1 + c / 3, y] : List Int).map V.int)) nl
  have D6 := D5.same s1
  have B6 := (B4.trans B5).trans s1.but
  refine ⟨_, rfl, _, rfl, _, _, rfl, d, n + 7, 8, rfl, rfl, by decide, by decide, D6, by omega, fun H6 u B7 D7 u0 u1 => ?_⟩
  obtain ⟨x, hx, ex⟩ := at_ints (ns := [0, 1, c - 1, 2, c / 2, c / 2 + 1, 1 + c / 3, y]) u0 (by show u < 8; exact u1)
  have hl := B7 _ _ (D5.ne nl) upd_same
  refine ⟨l, _, u, _, rfl, rfl, SqL.of hl, ex, _, rfl, _, _, rfl, rfl, by omega, ?_⟩
  have bt := mod_bd x (show 0 < c by omega)
  have B67 := B6.trans B7
  clear ex hx
  refine ⟨_, rfl, _, rfl, _, _, rfl, d, n + 8, c, rfl, rfl, by omega, by omega, D7, by omega, fun H7 y1 B8 D8 y10 y11 => ?_⟩
  refine ⟨_, rfl, _, rfl, _, _, rfl, d, n + 10, c, rfl, rfl, by omega, by omega, D8, by omega, fun H8 y2 B9 D9 y20 y21 => ?_⟩
  refine ⟨by show 4 ≤ sizeLine; decide, fun l2 nl2 => ?_⟩
  have s2 := same_new (o := .lst (([0, 1, y1, y2] : List Int).map V.int)) nl2
  have D10 := D9.same s2
  refine ⟨_, rfl, _, _, rfl, d, n + 12, 4, rfl, rfl, by decide, by decide, D10, by omega, fun H9 u2 B10 D11 u20 u21 => ?_⟩
  obtain ⟨x2, hx2, ex2⟩ := at_ints (ns := [0, 1, y1, y2]) u20 (by show u2 < 4; exact u21)
  have hl2 := B10 _ _ (D9.ne nl2) upd_same
  refine ⟨l2, _, u2, _, rfl, rfl, SqL.of hl2, ex2, _, rfl, _, _, rfl, rfl, by omega, ?_⟩
  have bp := mod_bd x2 (show 0 < c by omega)
  refine ⟨_, rfl, _, rfl, _, rfl, by show 3 ≤ sizeLine; decide, fun r nr => ?_⟩
  have s3 := same_new (o := .tup [.int (x % c), .int (x2 % c), .int c]) nr
  have Bf : But d H H9 := (((B67.trans B8).trans B9).trans s2.but).trans B10
  exact q _ r _ _ _ (Bf.trans s3.but) ((D11.same s3).mono (by omega)) (Bf.free (D11.ne nr) nr) upd_same ⟨by omega, by omega, bt.1, bt.2, bp.1, bp.2⟩ (by omega)
theorem ok_line (D : Top K mg "_law_line" s_line ["rule"]) : Has P w K mg base CX0 1 "_law_line" ["rule"] (sp1 (pLineD K)) := by
  refine D.ok1 sc_line (fun f cdv A outer s H v1 Q E hr h => ?_)
  obtain ⟨r, t, p, m, rfl, h1, R, q⟩ := h
  refine ⟨_, (pss_cons (ps_asg (pv 0) (pg_tup rfl (pgs_cons (pg_name (i := 1) sc_line.nd rfl (.inl rfl)) (pgs_cons (pg_name (i := 2) sc_line.nd rfl (.inl rfl)) (pgs_cons (pg_name (i := 3) sc_line.nd rfl (.inl rfl)) pgs_nil)))))
 (pss_one (ps_ret (pe_joined (PJ.cons pe_str (PJ.cons (pe_fmt (pv 1)) (PJ.cons pe_str (PJ.cons (pe_fmt (pv 2)) (PJ.cons pe_str (PJ.cons (pe_fmt (pv 3)) PJ.nil)))))))))), ?_⟩
  have a1 := R.t0
  have a2 := R.t1
  have a3 := R.p0
  have a4 := R.p1
  have a5 := R.b2
  refine ⟨_, rfl, r, _, rfl, h1, rfl, _, _, rfl, _, _, rfl, _, _, rfl, rfl, ?_⟩
  have k : ∀ n : Nat, (n : Int) ≤ 1000000000000 → (TL.numL n).length ≤ 13 := fun n hn => TL.numL_len (by decide) (by
    have : (10 : Nat) ^ 13 = 10000000000000 := by decide
    omega)
  have k1 := k t.toNat (by omega)
  have k2 := k p.toNat (by omega)
  have k3 := k m.toNat (by omega)
  have eb : Str.ofString " " = SX.S [32] := by decide
  have ee : Str.empty = SX.S [] := by decide
  have er : Str.ofString "rule " = SX.S headL := by decide
  have hl5 : headL.length = 5 := rfl
  refine ⟨_, rfl, by rw [ee, er, SX.S_cat]; exact s_len _ (by simp only [List.length_append, List.length_cons, List.length_nil]; omega), ?_⟩
  rw [ee, er, SX.S_cat]
  refine ⟨_, rfl, .inr ⟨t, rfl, lg_small (by omega) (by omega), ?_⟩⟩
  rw [str_num a1]
  refine ⟨_, rfl, by rw [SX.S_cat]; exact s_len _ (by simp only [List.length_append, List.length_cons, List.length_nil]; omega), ?_⟩
  rw [SX.S_cat]
  refine ⟨_, rfl, by rw [eb, SX.S_cat]; exact s_len _ (by simp only [List.length_append, List.length_cons, List.length_nil]; omega), ?_⟩
  rw [eb, SX.S_cat]
  refine ⟨_, rfl, .inr ⟨p, rfl, lg_small (by omega) (by omega), ?_⟩⟩
  rw [str_num a3]
  refine ⟨_, rfl, by rw [SX.S_cat]; exact s_len _ (by simp only [List.length_append, List.length_cons, List.length_nil]; omega), ?_⟩
  rw [SX.S_cat]
  refine ⟨_, rfl, by rw [SX.S_cat]; exact s_len _ (by simp only [List.length_append, List.length_cons, List.length_nil]; omega), ?_⟩
  rw [SX.S_cat]
  refine ⟨_, rfl, .inr ⟨m, rfl, lg_small (by omega) (by omega), ?_⟩⟩
  rw [str_num (show 0 ≤ m by omega)]
  refine ⟨_, rfl, by rw [SX.S_cat]; exact s_len _ (by simp only [List.length_append, List.length_cons, List.length_nil]; omega), ?_⟩
  rw [SX.S_cat]
  have e : [] ++ headL ++ TL.numL t.toNat ++ [32] ++ TL.numL p.toNat ++ [32] ++ TL.numL m.toNat = headL ++ shw t p m := by
    unfold shw
    simp only [List.nil_append, List.append_assoc]
  rw [e]
  exact q
end
end Tw


namespace Tw
open PySem PySem.Spec PyProof.Rows L2
abbrev s_joined : Stmt := topS 81
theorem sc_joined : FnScope ["numbers", "number"] ["numbers"] (defScope s_joined) := ⟨rfl, rfl, rfl, by decide +kernel, rfl, by decide +kernel, by decide +kernel⟩
/-- numbers as one text -/
def pJoinT (K : PySem.W.Frag) : V → Hp → VK → XK → Prop := fun a H Q _ => ∃ (r : Addr) (xs : List Int), a = .ref r ∧ SqT K H r (xs.map V.int) ∧ xs.length ≤ 60 ∧ (∀ x ∈ xs, 0 ≤ x ∧ x ≤ 1000000000000) ∧ ∀ H', Same H H' → Q (.str (SX.S (rowL xs))) H'
section
variable {P : Program} {w : World} {K : PySem.W.Frag} {mg : Str → Option Value} {base : Heap}
theorem ok_joined (D : Top K mg "_law_joined" s_joined ["numbers"]) : Has P w K mg base CX0 1 "_law_joined" ["numbers"] (sp1 (pJoinT K)) := by
  refine D.ok1 sc_joined (fun f cdv A outer s H v1 Q E hr h => ?_)
  obtain ⟨r, ys, rfl, hr, ol, on, q⟩ := h
  refine ⟨_, (pss_one (ps_ret (pe_join pe_str (pe_lc (own := [("number", 1)]) (by rfl) sc_joined.nd (pi_tup (pv 0)) (blkOk_by (own := [("number", 1)]) (N := ["numbers", "number"]) (sc := defScope s_joined) (by decide +kernel)) (fun _ _ _ _ _ => pg_name (i := 1) sc_joined.nd rfl (Or.inl rfl)) (fun _ _ _ _ _ => pts_nil) (fun _ _ _ _ _ => (pe_joined1 (pe_fmt (pv 1)))))))), ?_⟩
  have k : ∀ n : Nat, (n : Int) ≤ 1000000000000 → (TL.numL n).length ≤ 13 := fun n hn => TL.numL_len (by decide) (by
    have : (10 : Nat) ^ 13 = 10000000000000 := by decide
    omega)
  refine ⟨⟨_, rfl⟩, _, rfl, r, rfl, ⟨_, hr⟩, fun L nL => ?_⟩
  refine lc_tup (K := K) (a := r) (xs := ys.map V.int) (fun j H' => H' = upd H L (.lst ((((ys.take j).map fun z => TL.numL z.toNat).map SX.S).map V.str))) rfl ?_ ?_ ?_
  · rintro j H' _ rfl
    exact (same_new nL).tup hr
  · rintro j x H' hx rfl
    obtain ⟨rfl, lj⟩ := vget hx
    have zb := on _ (by rw [List.getD_eq_getElem?_getD, List.getElem?_eq_getElem lj]; exact List.getElem_mem lj : ys.getD j 0 ∈ ys)
    have hz : ys[j]? = some (ys.getD j 0) := by rw [List.getD_eq_getElem?_getD, List.getElem?_eq_getElem lj]; rfl
    generalize ys.getD j 0 = z at zb hz ⊢
    refine ⟨rfl, ?_⟩
    refine ⟨_, rfl, .inr ⟨_, rfl, lg_small zb.1 (by omega), ?_⟩⟩
    rw [str_num zb.1]
    refine ⟨_, upd_same, ?_, ?_⟩
    · exact szl (by rw [List.length_map, List.length_map, List.length_map, List.length_take]; omega)
    · rw [upd_upd, List.take_add_one, hz, List.map_append, List.map_append, List.map_append]
      rfl
  rintro H' rfl
  rw [show ys.take (ys.map V.int).length = ys by rw [List.length_map, List.take_length]]
  have sL := same_new (o := .lst (((ys.map fun z => TL.numL z.toNat).map SX.S).map V.str)) nL
  refine ⟨_, L, (ys.map fun z => TL.numL z.toNat).map SX.S, rfl, rfl, .inl (SqL.of upd_same), ?_, ?_⟩
  · rw [sumD]
    have := totD_le (c := 13) fun x hx => k x.toNat (by have := on x hx; omega)
    omega
  have eb : Str.ofString " " = SX.S [32] := by decide
  rw [eb, SX.join_S]
  exact q _ sL
end
end Tw


namespace Tw
open PySem PySem.Spec PyProof.Rows L2
abbrev s_init : Stmt := inClass (topS 6) 0
theorem sc_init : FnScope ["self", "number"] ["self", "number"] (defScope s_init) := ⟨rfl, rfl, rfl, by decide +kernel, rfl, by decide +kernel, by decide +kernel⟩
abbrev s_is_whole : Stmt := topS 8
theorem sc_is_whole : FnScope ["thing"] ["thing"] (defScope s_is_whole) := ⟨rfl, rfl, rfl, by decide +kernel, rfl, by decide +kernel, by decide +kernel⟩
abbrev s_is_number : Stmt := topS 9
theorem sc_is_number : FnScope ["thing", "bound"] ["thing", "bound"] (defScope s_is_number) := ⟨rfl, rfl, rfl, by decide +kernel, rfl, by decide +kernel, by decide +kernel⟩
abbrev s_check_number : Stmt := topS 10
theorem sc_check_number : FnScope ["number", "bound"] ["number", "bound"] (defScope s_check_number) := ⟨rfl, rfl, rfl, by decide +kernel, rfl, by decide +kernel, by decide +kernel⟩
section
variable {P : Program} {w : World} {K : PySem.W.Frag} {mg : Str → Option Value} {base : Heap}
theorem ok_init {f CR : Addr} {fd : FuncData} (F : Fun K "__init__" "NoNumber.__init__" s_init f fd) (g_RowError : mg "RowError" = some (.ref CR)) (r_RowError : ClX.CRead K CR (.type "type"))
    (i_RowError : PySem.W.findCls K (.ref CR) (.type "type") "__init__" = some (.val (.builtin "ValueError.__init__"))) : FnOk P w K mg base CX0 1 f fd ["self", "number"] (spInit K) := by
  refine F.ok sc_init (fun vs H Q E h => ?_) (fun cdv A outer s H vs Q E hr h => ?_)
  · obtain ⟨_, _, rfl, _⟩ := h; rfl
  obtain ⟨_, v, rfl, a, C, rfl, T, nf, ha, q⟩ := h
  refine ⟨_, pss_cons (ps_expr (pe_ownInit (by rfl) g_RowError r_RowError i_RowError (pa_cons (pv 0) (pa_cons pe_str pa_nil)))) (pss_one (ps_ost (pv 0) (pv 1))), ?_⟩
  refine ⟨_, rfl, a, C, _, rfl, by show 1 ≤ 1000; decide, T, ha, ?_⟩
  exact ⟨_, rfl, _, rfl, a, C, rfl, T, nf, .inl ⟨ha, fun d nd ne => q d nd ne⟩⟩
theorem ok_is_whole (D : Top K mg "is_whole" s_is_whole ["thing"]) (z_isinstance : mg "isinstance" = none) (z_int : mg "int" = none) (z_bool : mg "bool" = none) : Has P w K mg base CX0 1 "is_whole" ["thing"] (sp1 pWhole) := by
  refine D.ok1 sc_is_whole (fun f cdv A outer s H v1 Q E hr h => ?_)
  obtain ⟨n, rfl, q⟩ := h
  refine ⟨_, (pss_one (ps_ret (pe_and (pe_callB (id := "isinstance") call_isA (by rfl) z_isinstance (by decide +kernel) (pa_cons (pv 0) (pa_cons (pe_bltn (v := .ty "int") (by rfl) z_int (by decide +kernel) rfl) pa_nil))) (pe_one (pe_not (pe_callB (id := "isinstance") call_isA (by rfl) z_isinstance (by decide +kernel) (pa_cons (pv 0) (pa_cons (pe_bltn (v := .ty "bool") (by rfl) z_bool (by decide +kernel) rfl) pa_nil)))))))), ?_⟩
  refine ⟨_, rfl, .inr ⟨_, _, _, _, true, rfl, .ty _, .base (.int n), kit_ty (by decide +kernel), _, rfl, ifT rfl ?_⟩⟩
  exact ⟨_, rfl, .inr ⟨_, _, _, _, false, rfl, .ty _, .base (.int n), kit_ty (by decide +kernel), _, rfl, q⟩⟩
theorem ok_is_number (D : Top K mg "is_number" s_is_number ["thing", "bound"]) (h_is_whole : Has P w K mg base CX0 1 "is_whole" ["thing"] (sp1 pWhole)) : Has P w K mg base CX0 2 "is_number" ["thing", "bound"] (sp2 pIsNum) := by
  refine D.ok2 sc_is_number (fun f cdv A outer s H v1 v2 Q E hr h => ?_)
  obtain ⟨n, m, rfl, rfl, q⟩ := h
  refine ⟨_, (pss_one (ps_ret (pe_and (pe_own h_is_whole (hr.mono (by decide)) pass0 (pa_cons (pv 0) pa_nil)) (pe_one (pe_chain op_le op_lt pe_int (pv 0) (pv 1)))))), ?_⟩
  refine ⟨_, rfl, _, rfl, n, rfl, _, rfl, ifT rfl ?_⟩
  refine ⟨_, rfl, _, _, rfl, rfl, _, rfl, ifD (fun l => ⟨_, rfl, _, _, rfl, rfl, ?_⟩) (fun l => ?_)⟩
  · have e : decide (0 ≤ n ∧ n < m) = decide (n < m) := by
      by_cases h : n < m <;> simp [h, l]
    rw [e] at q
    exact q
  · have e : decide (0 ≤ n ∧ n < m) = false := decide_eq_false fun z => l z.1
    rw [e] at q
    exact q
theorem ok_check_number {CN fI : Addr} {fdI : FuncData} (D : Top K mg "check_number" s_check_number ["number", "bound"]) (h_is_number : Has P w K mg base CX0 2 "is_number" ["thing", "bound"] (sp2 pIsNum)) (oex_NoNumber : OexC K CN)
    (n_NoNumber : PySem.W.findIn K (.ref CN) "__init__" = some (some (.ref fI))) (t_NoNumber : PySem.W.typeIn K (.ref fI) = some (.type "function")) (F_NoNumber : FnOk P w K mg base CX0 1 fI fdI ["self", "number"] (spInit K)) (b_NoNumber : Binds K fdI ["self", "number"] [])
    (g_NoNumber : mg "NoNumber" = some (.ref CN)) (nf : PySem.W.findIn K (.ref CN) "number" = some none) : Has P w K mg base (L2.CX P w) 3 "check_number" ["number", "bound"] (sp2 (pCheck CN)) := by
  refine D.ok2X sc_check_number (fun f cdv A outer s H v1 v2 Q E hr h => ?_)
  obtain ⟨n, m, rfl, rfl, q, e⟩ := h
  refine ⟨_, (pss_one (ps_if (pt_not (pt_val (pe_own h_is_number (hr.mono (by decide)) pass0 (pa_cons (pv 0) (pa_cons (pv 1) pa_nil))))) (pss_one (ps_raise rfl (takes_of rfl rfl rfl rfl) (pmk_oex oex_NoNumber n_NoNumber t_NoNumber F_NoNumber (hr.mono (by decide)) b_NoNumber .nil pass0 (by rfl) g_NoNumber (pa_cons (pv 0) pa_nil)))) pss_nil)), ?_⟩
  have bad : ¬ (0 ≤ n ∧ n < m) → _ := fun hn => e hn
  refine ⟨_, rfl, _, rfl, _, _, rfl, n, m, rfl, rfl, _, rfl, ifN (fun l => ?_) (fun l => q l.1 l.2)⟩
  refine ⟨_, rfl, by show 1 ≤ 1000; decide, fun a na => ⟨_, _, rfl, a, CN, rfl, oex_NoNumber, nf, upd_same, fun d nd ne => ⟨rfl, d, [("number", .int n)], upd_same, ?_, ?_, ?_⟩⟩⟩
  · rw [upd_ne ne, upd_same]
  · rw [upd_ne ne] at nd; exact nd
  · rw [made_eq na ne]
    rw [upd_ne ne] at nd
    exact bad l d nd
end
end Tw


namespace Tw
open PySem PySem.Spec PyProof.Rows L2
abbrev s_next_of : Stmt := topS 18
theorem sc_next_of : FnScope ["rule", "number", "times", "plus", "bound"] ["rule", "number"] (defScope s_next_of) := ⟨rfl, rfl, rfl, by decide +kernel, rfl, by decide +kernel, by decide +kernel⟩
section
variable {P : Program} {w : World} {K : PySem.W.Frag} {mg : Str → Option Value} {base : Heap}
theorem ok_next_of {CN : Addr} (D : Top K mg "next_of" s_next_of ["rule", "number"]) (h_check_number : Has P w K mg base (L2.CX P w) 3 "check_number" ["number", "bound"] (sp2 (pCheck CN))) :
    Has P w K mg base (L2.CX P w) 4 "next_of" ["rule", "number"] (sp2 (pNextOf K CN)) := by
  refine D.ok2X sc_next_of (fun f cdv A outer s H v1 v2 Q E hr h => ?_)
  obtain ⟨r, t, p, m, n, rfl, rfl, hr1, R, q, e⟩ := h
  refine ⟨_, (pss_cons (ps_asg (pv 0) (pg_tup rfl (pgs_cons (pg_name (i := 2) sc_next_of.nd rfl (.inl rfl)) (pgs_cons (pg_name (i := 3) sc_next_of.nd rfl (.inl rfl)) (pgs_cons (pg_name (i := 4) sc_next_of.nd rfl (.inl rfl)) pgs_nil)))))
 (pss_cons (ps_expr (pe_own h_check_number (hr.mono (by decide)) (passes_call (takes_of rfl rfl rfl rfl) (fun _ _ _ _ z => z)) (pa_cons (pv 1) (pa_cons (pv 4) pa_nil))))
 (pss_one (ps_ret (pe_op op_mod (pe_op op_add (pe_op op_mulB (pv 2) (pv 1)) (pv 3)) (pv 4)))))), ?_⟩
  refine ⟨_, rfl, r, _, rfl, hr1, rfl, _, _, rfl, _, _, rfl, _, _, rfl, rfl, ?_⟩
  refine ⟨_, rfl, _, rfl, _, _, rfl, n, m, rfl, rfl, fun n0 n1 => ?_, e⟩
  have := R.b2
  have := R.t0
  have := R.t1
  have := R.b1
  exact ⟨_, rfl, _, rfl, _, _, rfl, rfl, ⟨by unfold Big; omega, by unfold Big; omega⟩, _, rfl, _, _, rfl, rfl, _, rfl, _, _, rfl, rfl, (show (0 : Int) < m by omega), q n0 n1⟩
end
end Tw


namespace Tw
open PySem PySem.Spec PyProof.Rows L2
abbrev s_row_from : Stmt := topS 19
theorem sc_row_from : FnScope ["rule", "start", "many", "row", "number", "place"] ["rule", "start", "many"] (defScope s_row_from) := ⟨rfl, rfl, rfl, by decide +kernel, rfl, by decide +kernel, by decide +kernel⟩
section
variable {P : Program} {w : World} {K : PySem.W.Frag} {mg : Str → Option Value} {base : Heap}
theorem ok_row_from {CN : Addr} (D : Top K mg "row_from" s_row_from ["rule", "start", "many"]) (h_check_number : Has P w K mg base (L2.CX P w) 3 "check_number" ["number", "bound"] (sp2 (pCheck CN))) (h_next_of : Has P w K mg base (L2.CX P w) 4 "next_of" ["rule", "number"] (sp2 (pNextOf K CN)))
    (z_range : mg "range" = none) (z_tuple : mg "tuple" = none) : Has P w K mg base (L2.CX P w) 5 "row_from" ["rule", "start", "many"] (sp3 (pRowFrom K CN)) := by
  refine D.ok3X sc_row_from (fun f cdv A outer s H v1 v2 v3 Q E hr h => ?_)
  obtain ⟨r, t, p, m, s0, n, rfl, rfl, rfl, hr1, R, n0, n1, q, e⟩ := h
  refine ⟨_, (pss_cons (ps_expr (pe_own h_check_number (hr.mono (by decide)) (passes_call (takes_of rfl rfl rfl rfl) (fun _ _ _ _ z => z)) (pa_cons (pv 1) (pa_cons (pe_ix ix_tup (pv 0) pe_int (fun _ _ => rfl)) pa_nil))))
 (pss_cons (ps_set (i := 3) sc_row_from.nd rfl (.inl rfl) (pe_lst pa_nil))
 (pss_cons (ps_set (i := 4) sc_row_from.nd rfl (.inl rfl) (pv 1))
 (pss_cons (ps_for (passes_of rfl) rfl (pi_range1 (by rfl) z_range (pa_cons (pv 2) pa_nil)) (pg_name (i := 5) sc_row_from.nd rfl (.inl rfl)) (pss_cons (ps_expr (pe_bm PySem.F.plainAttrs_list PySem.F.slot_list_append PySem.F.type_list_append mt_append (pv 3) (pa_cons (pv 4) pa_nil)))
 (pss_one (ps_set (i := 4) sc_row_from.nd rfl (.inl rfl) (pe_own h_next_of (hr.mono (by decide)) (passes_call (takes_of rfl rfl rfl rfl) (fun _ _ _ _ z => z)) (pa_cons (pv 0) (pa_cons (pv 4) pa_nil)))))))
 (pss_one (ps_ret (pe_callTy call_tuple_of (by rfl) z_tuple (by decide +kernel) (pa_cons (pv 3) pa_nil)))))))), ?_⟩
  have m0 : 0 < m := by have := R.b1; omega
  refine ⟨_, rfl, _, rfl, r, _, 2, .int m, rfl, rfl, hr1, rfl, _, _, rfl, s0, m, rfl, rfl, fun a0 a1 => ?_, e⟩
  refine ⟨by show 0 ≤ sizeLine; decide, fun l nl => ?_⟩
  have s1 := same_new (o := .lst []) nl
  refine ⟨_, rfl, _, rfl, n, rfl, by omega, by omega, for_range (lo := 0) (n := n.toNat) (fun i σ H' => ∃ (y : Option V), σ = [some (.ref r), some (.int s0), some (.int n), some (.ref l), some (.int (itr (stp t p m) i s0)), y] ∧ H' = upd H l (.lst ((orb (stp t p m) i s0).map V.int))) ⟨none, rfl, rfl⟩ ?_ ?_⟩
  · rintro i σ H' hi ⟨y, rfl, rfl⟩
    have ir := itr_rng (t := t) (p := p) m0 ⟨a0, a1⟩ i
    refine ⟨_, rfl, .inl ⟨rfl, _, SqL.of upd_same⟩, _, rfl, l, _, _, rfl, rfl, upd_same, szl (by rw [List.length_map, orb_len]; omega), ?_⟩
    rw [upd_upd, show (orb (stp t p m) i s0).map V.int ++ [.int (itr (stp t p m) i s0)] = (orb (stp t p m) (i + 1) s0).map V.int by rw [orb_succ, List.map_append]; rfl]
    have s2 : Same H (upd H l (.lst ((orb (stp t p m) (i + 1) s0).map V.int))) := same_new nl
    refine ⟨_, rfl, _, rfl, _, _, rfl, r, t, p, m, _, rfl, rfl, s2.tup hr1, R, fun _ _ => ?_, fun z => absurd ir z⟩
    exact ⟨some (.int (0 + i)), rfl, rfl⟩
  · rintro σ H' ⟨y, rfl, rfl⟩
    have s2 : Same H (upd H l (.lst ((orb (stp t p m) n.toNat s0).map V.int))) := same_new nl
    refine ⟨_, rfl, l, _, rfl, .inl ⟨SqL.of upd_same, fun u nu => ?_⟩⟩
    exact q a0 a1 _ u (s2.trans (same_new nu)) (s2.free nu) upd_same
end
end Tw


namespace Tw
open PySem PySem.Spec PyProof.Rows L2
abbrev s_common_divisor : Stmt := topS 11
theorem sc_common_divisor : FnScope ["one", "other"] ["one", "other"] (defScope s_common_divisor) := ⟨rfl, rfl, rfl, by decide +kernel, rfl, by decide +kernel, by decide +kernel⟩
section
variable {P : Program} {w : World} {K : PySem.W.Frag} {mg : Str → Option Value} {base : Heap}
theorem ok_common_divisor (D : Top K mg "common_divisor" s_common_divisor ["one", "other"]) : Has P w K mg base CX0 1 "common_divisor" ["one", "other"] (sp2 pGcd) := by
  refine D.ok2 sc_common_divisor (fun f cdv A outer s H v1 v2 Q E hr h => ?_)
  obtain ⟨x, y, rfl, rfl, x0, y0, q⟩ := h
  refine ⟨_, (pss_cons (ps_while PassesOwn.never (pt_cmpR op_ne (pv 1) pe_int (nomark _)) (pss_one (ps_par (i := 0) (j := 1) (by rfl) sc_common_divisor.nd rfl rfl (by decide) rfl rfl (pa_cons (pv 1) (pa_cons (pe_op op_mod (pv 0) (pv 1)) pa_nil)) (by rfl))))
 (pss_one (ps_ret (pv 0)))), ?_⟩
  refine ⟨fun k σ H' => ∃ a b : Int, σ = [some (.int a), some (.int b)] ∧ H' = H ∧ 0 ≤ a ∧ 0 ≤ b ∧ b.toNat = k ∧ Int.gcd a b = Int.gcd x y, ⟨y.toNat, x, y, rfl, rfl, x0, y0, rfl, rfl⟩, ?_⟩
  rintro k σ H' ⟨a, b, rfl, rfl, a0, b0, hk, hg⟩
  refine ⟨_, rfl, rfl, _, rfl, ifNI (fun nb => ?_) (fun nb => ?_)⟩
  · have bp : 0 < b := by omega
    have mr := mod_bd a bp
    refine ⟨fun σ' H1 => ∃ k', k' < k ∧ ∃ a b : Int, σ' = [some (.int a), some (.int b)] ∧ H1 = H' ∧ 0 ≤ a ∧ 0 ≤ b ∧ b.toNat = k' ∧ Int.gcd a b = Int.gcd x y, fun _ _ z => z, ?_⟩
    refine ⟨_, rfl, _, rfl, _, rfl, _, _, rfl, rfl, bp, _, _, rfl, (a % b).toNat, by omega, b, a % b, rfl, rfl, b0, mr.1, rfl, (gcd_step a0 bp).trans hg⟩
  · subst nb
    refine ⟨_, rfl, ?_⟩
    have e : ((Int.gcd x y : Nat) : Int) = a := by
      rw [← hg, Int.gcd_zero_right]
      omega
    rw [e] at q
    exact q
end
end Tw


namespace Tw
open PySem PySem.Spec PyProof.Rows L2
abbrev s_inverse : Stmt := topS 12
theorem sc_inverse : FnScope ["number", "bound", "high", "low", "high_factor", "low_factor", "goes_in"] ["number", "bound"] (defScope s_inverse) := ⟨rfl, rfl, rfl, by decide +kernel, rfl, by decide +kernel, by decide +kernel⟩
section
variable {P : Program} {w : World} {K : PySem.W.Frag} {mg : Str → Option Value} {base : Heap}
theorem ok_inverse (D : Top K mg "inverse" s_inverse ["number", "bound"]) : Has P w K mg base CX0 1 "inverse" ["number", "bound"] (sp2 pInv) := by
  refine D.ok2 sc_inverse (fun f cdv A outer s H v1 v2 Q E hr h => ?_)
  obtain ⟨x, m, rfl, rfl, x0, m0, m1, hg, q⟩ := h
  refine ⟨_, (pss_cons (ps_par (i := 2) (j := 3) (by rfl) sc_inverse.nd rfl rfl (by decide) rfl rfl (pa_cons (pv 1) (pa_cons (pe_op op_mod (pv 0) (pv 1)) pa_nil)) (by rfl))
 (pss_cons (ps_asg (pe_tup (pa_cons pe_int (pa_cons pe_int pa_nil))) (pg_tup rfl (pgs_cons (pg_name (i := 4) sc_inverse.nd rfl (.inl rfl)) (pgs_cons (pg_name (i := 5) sc_inverse.nd rfl (.inl rfl)) pgs_nil))))
 (pss_cons (ps_while PassesOwn.never (pt_cmpR op_ne (pv 3) pe_int (nomark _)) (pss_cons (ps_set (i := 6) sc_inverse.nd rfl (.inl rfl) (pe_op op_fdivB (pv 2) (pv 3)))
 (pss_cons (ps_par (i := 2) (j := 3) (by rfl) sc_inverse.nd rfl rfl (by decide) rfl rfl (pa_cons (pv 3) (pa_cons (pe_op op_sub (pv 2) (pe_op op_mulB (pv 6) (pv 3))) pa_nil)) (by rfl))
 (pss_one (ps_par (i := 4) (j := 5) (by rfl) sc_inverse.nd rfl rfl (by decide) rfl rfl (pa_cons (pv 5) (pa_cons (pe_op op_sub (pv 4) (pe_op op_mulB (pv 6) (pv 5))) pa_nil)) (by rfl))))))
 (pss_one (ps_ret (pe_op op_mod (pv 4) (pv 1))))))), ?_⟩
  have xr := mod_bd x m0
  refine ⟨_, rfl, _, rfl, _, rfl, _, _, rfl, rfl, m0, _, _, rfl, ?_⟩
  refine ⟨by show 2 ≤ sizeLine; decide, fun z nz => ⟨z, _, rfl, SqT.of upd_same, rfl, _, _, rfl, _, _, rfl, rfl, ?_⟩⟩
  refine ⟨fun k σ H' => ∃ (hi lo hf lf A B : Int) (y : Option V), σ = [some (.int x), some (.int m), some (.int hi), some (.int lo), some (.int hf), some (.int lf), y] ∧ H' = upd H z (.tup [.int 0, .int 1]) ∧ 0 ≤ lo ∧ 0 < hi ∧ lo.toNat = k ∧ Int.gcd hi lo = 1 ∧ m ∣ hf * x - hi ∧ m ∣ lf * x - lo ∧
    -A ≤ hf ∧ hf ≤ A ∧ -B ≤ lf ∧ lf ≤ B ∧ 0 ≤ A ∧ 0 ≤ B ∧ A * lo + B * hi = m ∧ hi ≤ m ∧ lo ≤ m, ⟨(x % m).toNat, m, x % m, 0, 1, 0, 1, none, rfl, rfl, xr.1, m0, rfl, ?_, ⟨-1, by omega⟩, ⟨x / m, ?_⟩, by omega, by omega, by omega, by omega, by omega, by omega, by omega, by omega, by omega⟩, ?_⟩
  · rw [gcd_step x0 m0]; exact hg
  · have := Int.mul_ediv_add_emod x m
    omega
  rintro k σ H' ⟨hi, lo, hf, lf, A, B, y, rfl, rfl, l0, h0, hk, gg, d1, d2, a1, a2, b1, b2, A0, B0, hm, him, lm⟩
  refine ⟨_, rfl, rfl, _, rfl, ifNI (fun nb => ?_) (fun nb => ?_)⟩
  · have lp : 0 < lo := by omega
    have mr := mod_bd hi lp
    have dv := Int.mul_ediv_add_emod hi lo
    have q0 : 0 ≤ hi / lo := Int.ediv_nonneg (by omega) l0
    have qh : hi / lo ≤ hi := Int.ediv_le_self _ (by omega)
    obtain ⟨qq, eqq⟩ : ∃ qq, qq = hi / lo := ⟨_, rfl⟩
    rw [← eqq] at dv q0 qh
    have e3 : hi - qq * lo = hi % lo := by rw [Int.mul_comm qq lo]; omega
    have Bm : B ≤ m := by
      have h1 := mul_bd B0 (Int.le_refl B) (show (0:Int) ≤ 1 by decide) (show (1:Int) ≤ hi by omega)
      have h2 := Int.mul_nonneg A0 l0
      have h3 := Int.mul_le_mul_of_nonneg_left (show (1:Int) ≤ hi by omega) B0
      omega
    refine ⟨fun σ' H1 => ∃ k', k' < k ∧ ∃ (hi lo hf lf A B : Int) (y : Option V), σ' = [some (.int x), some (.int m), some (.int hi), some (.int lo), some (.int hf), some (.int lf), y] ∧ H1 = upd H z (.tup [.int 0, .int 1]) ∧ 0 ≤ lo ∧ 0 < hi ∧ lo.toNat = k' ∧ Int.gcd hi lo = 1 ∧ m ∣ hf * x - hi ∧ m ∣ lf * x - lo ∧
      -A ≤ hf ∧ hf ≤ A ∧ -B ≤ lf ∧ lf ≤ B ∧ 0 ≤ A ∧ 0 ≤ B ∧ A * lo + B * hi = m ∧ hi ≤ m ∧ lo ≤ m, fun _ _ z => z, ?_⟩
    have qB := Int.mul_nonneg q0 B0
    have ab1 : -(qq * B) ≤ qq * lf := by have := Int.mul_le_mul_of_nonneg_left b1 q0; rw [Int.mul_neg] at this; exact this
    have ab2 : qq * lf ≤ qq * B := Int.mul_le_mul_of_nonneg_left b2 q0
    have f1 : m ∣ (hf - qq * lf) * x - (hi - qq * lo) := by
      obtain ⟨c1, e1⟩ := d1
      obtain ⟨c2, e2⟩ := d2
      exact ⟨c1 - qq * c2, by grind⟩
    have f2 : B * (hi - qq * lo) + (A + qq * B) * lo = m := by rw [← hm]; grind
    have f3 : Int.gcd lo (hi - qq * lo) = 1 := by rw [e3, gcd_step (by omega) lp]; exact gg
    have g1 : 0 ≤ hi - qq * lo ∧ hi - qq * lo < lo := by omega
    have g2 : -(A + qq * B) ≤ hf - qq * lf ∧ hf - qq * lf ≤ A + qq * B ∧ 0 ≤ A + qq * B := by omega
    have g3 : Big qq ∧ Big lo ∧ Big lf := by unfold Big; omega
    subst eqq
    refine ⟨_, rfl, _, rfl, _, _, rfl, rfl, ⟨lp, by omega⟩, ?_⟩
    refine ⟨_, rfl, _, rfl, _, rfl, _, rfl, _, _, rfl, rfl, ⟨g3.1, g3.2.1⟩, _, _, rfl, rfl, _, _, rfl, ?_⟩
    refine ⟨_, rfl, _, rfl, _, rfl, _, rfl, _, _, rfl, rfl, ⟨g3.1, g3.2.2⟩, _, _, rfl, rfl, _, _, rfl, ?_⟩
    refine ⟨(hi - hi / lo * lo).toNat, by omega, lo, hi - hi / lo * lo, lf, hf - hi / lo * lf, B, A + hi / lo * B, some (.int (hi / lo)), rfl, rfl, g1.1, lp, rfl, f3, d2, f1, b1, b2, g2.1, g2.2.1, B0, g2.2.2, f2, lm, by omega⟩
  · subst nb
    rw [Int.gcd_zero_right] at gg
    have h1 : hi = 1 := by omega
    subst h1
    have vr := mod_bd hf m0
    refine ⟨_, rfl, _, rfl, _, _, rfl, rfl, m0, q _ _ (same_new nz) vr.1 vr.2 ?_⟩
    rw [Int.mul_emod, Int.emod_emod, ← Int.mul_emod]
    obtain ⟨c1, e1⟩ := d1
    rw [show x * hf = 1 + m * c1 by grind, Int.add_mul_emod_self_left]
end
end Tw


namespace Tw
open PySem PySem.Spec PyProof.Rows L2
abbrev s_chained : Stmt := topS 23
theorem sc_chained : FnScope ["first", "second", "times", "plus", "bound", "more_times", "more_plus"] ["first", "second"] (defScope s_chained) := ⟨rfl, rfl, rfl, by decide +kernel, rfl, by decide +kernel, by decide +kernel⟩
abbrev s_rule_of_steps : Stmt := topS 22
theorem sc_rule_of_steps : FnScope ["rule", "steps", "bound", "done", "doubled", "left"] ["rule", "steps"] (defScope s_rule_of_steps) := ⟨rfl, rfl, rfl, by decide +kernel, rfl, by decide +kernel, by decide +kernel⟩
section
variable {P : Program} {w : World} {K : PySem.W.Frag} {mg : Str → Option Value} {base : Heap}
theorem ok_chained (D : Top K mg "chained" s_chained ["first", "second"]) : Has P w K mg base CX0 1 "chained" ["first", "second"] (sp2 (pChained K)) := by
  refine D.ok2 sc_chained (fun f cdv A outer s H v1 v2 Q E hr h => ?_)
  obtain ⟨r1, r2, t1, p1, t2, p2, m, rfl, rfl, h1, h2, R1, R2, q⟩ := h
  refine ⟨_, (pss_cons (ps_asg (pv 0) (pg_tup rfl (pgs_cons (pg_name (i := 2) sc_chained.nd rfl (.inl rfl)) (pgs_cons (pg_name (i := 3) sc_chained.nd rfl (.inl rfl)) (pgs_cons (pg_name (i := 4) sc_chained.nd rfl (.inl rfl)) pgs_nil)))))
 (pss_cons (ps_par (i := 5) (j := 6) (by rfl) sc_chained.nd rfl rfl (by decide) rfl rfl (pa_cons (pe_ix ix_tup (pv 1) pe_int (fun _ _ => rfl)) (pa_cons (pe_ix ix_tup (pv 1) pe_int (fun _ _ => rfl)) pa_nil)) (by rfl))
 (pss_one (ps_ret (pe_tup (pa_cons (pe_op op_mod (pe_op op_mulB (pv 5) (pv 2)) (pv 4)) (pa_cons (pe_op op_mod (pe_op op_add (pe_op op_mulB (pv 5) (pv 3)) (pv 6)) (pv 4)) (pa_cons (pv 4) pa_nil)))))))), ?_⟩
  have a1 := R1.t0
  have a2 := R1.t1
  have a3 := R1.p0
  have a4 := R1.p1
  have a5 := R1.b2
  have a6 := R1.b1
  have b1 := R2.t0
  have b2 := R2.t1
  refine ⟨_, rfl, r1, _, rfl, h1, rfl, _, _, rfl, _, _, rfl, _, _, rfl, rfl, ?_⟩
  refine ⟨_, rfl, r2, _, 0, .int t2, rfl, rfl, h2, rfl, _, rfl, r2, _, 1, .int p2, rfl, rfl, h2, rfl, _, _, rfl, ?_⟩
  refine ⟨_, rfl, _, rfl, _, _, rfl, rfl, ⟨by unfold Big; omega, by unfold Big; omega⟩, _, rfl, _, _, rfl, rfl, (show (0 : Int) < m by omega), ?_⟩
  refine ⟨_, rfl, _, rfl, _, _, rfl, rfl, ⟨by unfold Big; omega, by unfold Big; omega⟩, _, rfl, _, _, rfl, rfl, _, rfl, _, _, rfl, rfl, (show (0 : Int) < m by omega), ?_⟩
  refine ⟨_, rfl, by show 3 ≤ sizeLine; decide, fun u nu => q _ u (same_new nu) nu upd_same⟩
theorem rs_one {t p m : Int} (R : Rule t p m) : rsT t m 1 = t ∧ rsP t p m 1 = p := by
  constructor
  · unfold rsT
    rw [Int.pow_one]
    exact Int.emod_eq_of_lt R.t0 R.t1
  · unfold rsP
    show p * (0 + t ^ 0) % m = p
    rw [Int.pow_zero, Int.zero_add, Int.mul_one]
    exact Int.emod_eq_of_lt R.p0 R.p1
theorem ok_rule_of_steps (D : Top K mg "rule_of_steps" s_rule_of_steps ["rule", "steps"]) (h_chained : Has P w K mg base CX0 1 "chained" ["first", "second"] (sp2 (pChained K))) : Has P w K mg base CX0 2 "rule_of_steps" ["rule", "steps"] (sp2 (pRos K)) := by
  refine D.ok2 sc_rule_of_steps (fun f cdv A outer s H v1 v2 Q E hr h => ?_)
  obtain ⟨r, t, p, m, n, rfl, rfl, h1, R, n0, q⟩ := h
  refine ⟨_, (pss_cons (ps_set (i := 2) sc_rule_of_steps.nd rfl (.inl rfl) (pe_ix ix_tup (pv 0) pe_int (fun _ _ => rfl)))
 (pss_cons (ps_set (i := 3) sc_rule_of_steps.nd rfl (.inl rfl) (pe_tup (pa_cons (pe_op op_mod pe_int (pv 2)) (pa_cons pe_int (pa_cons (pv 2) pa_nil)))))
 (pss_cons (ps_set (i := 4) sc_rule_of_steps.nd rfl (.inl rfl) (pv 0))
 (pss_cons (ps_set (i := 5) sc_rule_of_steps.nd rfl (.inl rfl) (pv 1))
 (pss_cons (ps_while PassesOwn.never (pt_cmpR op_gt (pv 5) pe_int (nomark _)) (C8.pss_cut (ps_if (pt_cmpR op_eq (pe_op op_and (pv 5) pe_int) pe_int (nomark _)) (pss_one (ps_set (i := 3) sc_rule_of_steps.nd rfl (.inl rfl) (pe_own h_chained (hr.mono (by decide)) pass0 (pa_cons (pv 3) (pa_cons (pv 4) pa_nil))))) pss_nil)
 (pss_cons (ps_set (i := 4) sc_rule_of_steps.nd rfl (.inl rfl) (pe_own h_chained (hr.mono (by decide)) pass0 (pa_cons (pv 4) (pa_cons (pv 4) pa_nil))))
 (pss_one (ps_set (i := 5) sc_rule_of_steps.nd rfl (.inl rfl) (pe_op op_fdivB (pv 5) pe_int))))))
 (pss_one (ps_ret (pv 3)))))))), ?_⟩
  have m0 : 0 < m := by have := R.b1; omega
  refine ⟨_, rfl, r, _, 2, .int m, rfl, rfl, h1, rfl, ?_⟩
  refine ⟨_, rfl, _, _, rfl, rfl, m0, _, rfl, by show 3 ≤ sizeLine; decide, fun dn0 nd0 => ?_⟩
  have s1 := same_new (o := .tup [.int (1 % m), .int 0, .int m]) nd0
  refine ⟨_, rfl, _, rfl, ?_⟩
  obtain ⟨o1, o2⟩ := rs_one R
  refine ⟨fun k σ H' => ∃ (dn db : Addr) (l : Int) (a c : Nat), σ = [some (.ref r), some (.int n), some (.int m), some (.ref dn), some (.ref db), some (.int l)] ∧ Same H H' ∧ H' dn = some (.tup [.int (rsT t m a), .int (rsP t p m a), .int m]) ∧ SqT K H' db [.int (rsT t m c), .int (rsP t p m c), .int m] ∧ 0 ≤ l ∧ a + c * l.toNat = n.toNat ∧ k = l.toNat,
    ⟨n.toNat, dn0, r, n, 0, 1, rfl, s1, ?_, ?_, n0, by omega, rfl⟩, ?_⟩
  · rw [upd_same]
    unfold rsT rsP
    rw [Int.pow_zero, show geo t 0 = 0 from rfl, Int.mul_zero, Int.zero_emod]
  · rw [o1, o2]
    exact s1.tup h1
  rintro k σ H1 ⟨dn, db, l, a, c, rfl, sm, hdn, hdb, l0, hn, rfl⟩
  refine ⟨_, rfl, _, _, rfl, rfl, _, rfl, ifD (fun lp => ?_) (fun lp => ?_)⟩
  · refine ⟨fun σ' H' => ∃ k', k' < l.toNat ∧ ∃ (dn db : Addr) (l : Int) (a c : Nat), σ' = [some (.ref r), some (.int n), some (.int m), some (.ref dn), some (.ref db), some (.int l)] ∧ Same H H' ∧ H' dn = some (.tup [.int (rsT t m a), .int (rsP t p m a), .int m]) ∧ SqT K H' db [.int (rsT t m c), .int (rsP t p m c), .int m] ∧ 0 ≤ l ∧ a + c * l.toNat = n.toNat ∧ k' = l.toNat, fun _ _ z => z, ?_⟩
    refine ⟨fun σ' H' => ∃ (dn : Addr) (a2 : Nat), σ' = [some (.ref r), some (.int n), some (.int m), some (.ref dn), some (.ref db), some (.int l)] ∧ Same H H' ∧ H' dn = some (.tup [.int (rsT t m a2), .int (rsP t p m a2), .int m]) ∧ SqT K H' db [.int (rsT t m c), .int (rsP t p m c), .int m] ∧ a2 + (c + c) * (l / 2).toNat = n.toNat, ?_, ?_⟩
    · refine ⟨_, rfl, _, _, rfl, rfl, rfl, _, rfl, ifI (fun e => ?_) (fun e => ?_)⟩
      · rw [bitAnd_m1] at e
        refine ⟨_, rfl, _, rfl, _, _, rfl, dn, db, _, _, _, _, m, rfl, rfl, SqT.of hdn, hdb, R.rs a, R.rs c, fun H2 u s2 nu hu => ?_⟩
        rw [rs_T, rs_P] at hu
        refine ⟨u, a + c, rfl, sm.trans s2, hu, s2.tup hdb, ?_⟩
        have e2 : l.toNat = 2 * (l / 2).toNat + 1 := by omega
        rw [← hn, e2]
        generalize (l / 2).toNat = z
        grind
      · rw [bitAnd_m1] at e
        refine ⟨dn, a, rfl, sm, hdn, hdb, ?_⟩
        have e2 : l.toNat = 2 * (l / 2).toNat := by omega
        rw [← hn, e2]
        generalize (l / 2).toNat = z
        grind
    · rintro σ' H2 ⟨dn2, a2, rfl, sm2, hdn2, hdb2, hn2⟩
      refine ⟨_, rfl, _, rfl, _, _, rfl, db, db, _, _, _, _, m, rfl, rfl, hdb2, hdb2, R.rs c, R.rs c, fun H3 u s3 nu hu => ?_⟩
      rw [rs_T, rs_P] at hu
      refine ⟨_, rfl, _, _, rfl, rfl, ⟨by decide, by decide⟩, (l / 2).toNat, by omega, dn2, u, l / 2, a2, c + c, rfl, sm2.trans s3, s3 _ _ hdn2, SqT.of hu, by omega, hn2, rfl⟩
  · have l00 : l = 0 := by omega
    subst l00
    have ea : a = n.toNat := by
      rw [← hn]
      show a = a + c * 0
      omega
    subst ea
    exact ⟨_, rfl, q _ dn sm hdn⟩
end
end Tw


namespace Tw
open PySem PySem.Spec PyProof.Rows L2
abbrev s_rule_back : Stmt := topS 21
theorem sc_rule_back : FnScope ["rule", "times", "plus", "bound", "undone"] ["rule"] (defScope s_rule_back) := ⟨rfl, rfl, rfl, by decide +kernel, rfl, by decide +kernel, by decide +kernel⟩
abbrev s_jumped : Stmt := topS 20
theorem sc_jumped : FnScope ["rule", "start", "steps"] ["rule", "start", "steps"] (defScope s_jumped) := ⟨rfl, rfl, rfl, by decide +kernel, rfl, by decide +kernel, by decide +kernel⟩
section
variable {P : Program} {w : World} {K : PySem.W.Frag} {mg : Str → Option Value} {base : Heap}
theorem ok_rule_back {CB : Addr} (D : Top K mg "rule_back" s_rule_back ["rule"]) (h_common_divisor : Has P w K mg base CX0 1 "common_divisor" ["one", "other"] (sp2 pGcd)) (h_inverse : Has P w K mg base CX0 1 "inverse" ["number", "bound"] (sp2 pInv))
    (x_NoBack : PySem.W.excIn K CB [.type "ValueError", .type "Exception", .type "BaseException", .type "object"] "ValueError.__new__" = true) (g_NoBack : mg "NoBack" = some (.ref CB)) (k_NoBack : PySem.W.keepIn K (.ref CB) = true) (e_NoBack : PySem.W.subIn K (.ref CB) (.type "BaseException") = some true) (y_NoBack : PySem.W.typeIn K (.ref CB) = some (.type "type")) :
    Has P w K mg base (L2.CX P w) 2 "rule_back" ["rule"] (sp1 (pRback K CB)) := by
  refine D.ok1X sc_rule_back (fun f cdv A outer s H v1 Q E hr h => ?_)
  obtain ⟨r, t, p, m, rfl, h1, R, q, e⟩ := h
  refine ⟨_, (pss_cons (ps_asg (pv 0) (pg_tup rfl (pgs_cons (pg_name (i := 1) sc_rule_back.nd rfl (.inl rfl)) (pgs_cons (pg_name (i := 2) sc_rule_back.nd rfl (.inl rfl)) (pgs_cons (pg_name (i := 3) sc_rule_back.nd rfl (.inl rfl)) pgs_nil)))))
 (pss_cons (ps_if (pt_cmpR op_ne (pe_own h_common_divisor (hr.mono (by decide)) pass0 (pa_cons (pv 1) (pa_cons (pv 3) pa_nil))) pe_int (nomark _)) (pss_one (ps_raise rfl (takes_of rfl rfl rfl rfl) (pmk_own PySem.F.excBase_ValueError x_NoBack g_NoBack k_NoBack (raises_own e_NoBack y_NoBack) (by rfl)))) pss_nil)
 (pss_cons (ps_set (i := 4) sc_rule_back.nd rfl (.inl rfl) (pe_own h_inverse (hr.mono (by decide)) pass0 (pa_cons (pv 1) (pa_cons (pv 3) pa_nil))))
 (pss_one (ps_ret (pe_tup (pa_cons (pv 4) (pa_cons (pe_op op_mod (pe_op op_mulB (pe_un un_neg (pv 4)) (pv 2)) (pv 3)) (pa_cons (pv 3) pa_nil))))))))), ?_⟩
  have m0 : 0 < m := by have := R.b1; omega
  have a1 := R.t0
  have a2 := R.t1
  have a3 := R.p0
  have a4 := R.p1
  have a5 := R.b2
  refine ⟨_, rfl, r, _, rfl, h1, rfl, _, _, rfl, _, _, rfl, _, _, rfl, rfl, ?_⟩
  refine ⟨_, rfl, _, rfl, _, _, rfl, t, m, rfl, rfl, R.t0, by omega, rfl, _, rfl, ifNI (fun ne => ?_) (fun ne => ?_)⟩
  · exact e (fun z => ne (by rw [z]; rfl))
  · have g1 : Int.gcd t m = 1 := by omega
    refine ⟨_, rfl, _, rfl, _, _, rfl, t, m, rfl, rfl, R.t0, m0, R.b2, g1, fun H0 u s0 u0 u1 hu => ?_⟩
    refine ⟨_, rfl, _, rfl, _, rfl, _, rfl, _, _, rfl, rfl, ⟨by unfold Big; omega, by unfold Big; omega⟩, _, rfl, _, _, rfl, rfl, m0, ?_⟩
    exact ⟨_, rfl, by show 3 ≤ sizeLine; decide, fun x nx => q g1 _ x u (s0.trans (same_new nx)) (s0.free nx) u0 u1 hu upd_same⟩
theorem ok_jumped {CN CB : Addr} (D : Top K mg "jumped" s_jumped ["rule", "start", "steps"]) (h_check_number : Has P w K mg base (L2.CX P w) 3 "check_number" ["number", "bound"] (sp2 (pCheck CN))) (h_next_of : Has P w K mg base (L2.CX P w) 4 "next_of" ["rule", "number"] (sp2 (pNextOf K CN)))
    (h_rule_of_steps : Has P w K mg base CX0 2 "rule_of_steps" ["rule", "steps"] (sp2 (pRos K))) (h_rule_back : Has P w K mg base (L2.CX P w) 2 "rule_back" ["rule"] (sp1 (pRback K CB))) : Has P w K mg base (L2.CX P w) 5 "jumped" ["rule", "start", "steps"] (sp3 (pJump K CN CB)) := by
  refine D.ok3X sc_jumped (fun f cdv A outer s H v1 v2 v3 Q E hr h => ?_)
  obtain ⟨r, t, p, m, s0, n, rfl, rfl, rfl, h1, R, eN, qa, qb, eB⟩ := h
  refine ⟨_, (pss_cons (ps_expr (pe_own h_check_number (hr.mono (by decide)) (passes_call (takes_of rfl rfl rfl rfl) (fun _ _ _ _ z => z)) (pa_cons (pv 1) (pa_cons (pe_ix ix_tup (pv 0) pe_int (fun _ _ => rfl)) pa_nil))))
 (pss_cons (ps_if (pt_cmpR op_lt (pv 2) pe_int (nomark _)) (pss_one (ps_ret (pe_own h_next_of (hr.mono (by decide)) (passes_call (takes_of rfl rfl rfl rfl) (fun _ _ _ _ z => z)) (pa_cons (pe_own h_rule_of_steps (hr.mono (by decide)) pass0 (pa_cons (pe_own h_rule_back (hr.mono (by decide)) (passes_call (takes_of rfl rfl rfl rfl) (fun _ _ _ _ z => z)) (pa_cons (pv 0) pa_nil)) (pa_cons (pe_un un_neg (pv 2)) pa_nil))) (pa_cons (pv 1) pa_nil))))) pss_nil)
 (pss_one (ps_ret (pe_own h_next_of (hr.mono (by decide)) (passes_call (takes_of rfl rfl rfl rfl) (fun _ _ _ _ z => z)) (pa_cons (pe_own h_rule_of_steps (hr.mono (by decide)) pass0 (pa_cons (pv 0) (pa_cons (pv 2) pa_nil))) (pa_cons (pv 1) pa_nil))))))), ?_⟩
  have m0 : 0 < m := by have := R.b1; omega
  refine ⟨_, rfl, _, rfl, r, _, 2, .int m, rfl, rfl, h1, rfl, _, _, rfl, s0, m, rfl, rfl, fun a0 a1 => ?_, eN⟩
  refine ⟨_, rfl, _, _, rfl, rfl, _, rfl, ifD (fun nn => ?_) (fun nn => ?_)⟩
  · refine ⟨_, rfl, _, rfl, r, t, p, m, rfl, h1, R, fun g H1 u x s1 nu u0 u1 hu hx => ?_, fun g => eB ⟨a0, a1⟩ nn g⟩
    have pr := mod_bd (-x * p) m0
    have R2 : Rule x (-x * p % m) m := ⟨R.b1, R.b2, u0, u1, pr.1, pr.2⟩
    refine ⟨_, rfl, _, rfl, _, _, rfl, u, x, _, m, -n, rfl, rfl, SqT.of hx, R2, by omega, fun H2 u2 s2 hx2 => ?_⟩
    refine ⟨_, rfl, _, _, rfl, u2, _, _, m, s0, rfl, rfl, SqT.of hx2, R2.rs _, fun _ _ => ?_, fun z => absurd ⟨a0, a1⟩ z⟩
    rw [stp_rs]
    exact qb ⟨a0, a1⟩ nn g _ _ (s1.trans s2) (back_of m0 hu s0 a0 a1 _)
  · refine ⟨_, rfl, _, rfl, _, _, rfl, r, t, p, m, n, rfl, rfl, h1, R, by omega, fun H2 u2 s2 hx2 => ?_⟩
    refine ⟨_, rfl, _, _, rfl, u2, _, _, m, s0, rfl, rfl, SqT.of hx2, R.rs _, fun _ _ => ?_, fun z => absurd ⟨a0, a1⟩ z⟩
    rw [stp_rs]
    exact qa ⟨a0, a1⟩ (by omega) _ s2
end
end Tw


namespace Tw
open PySem PySem.Spec PyProof.Rows L2
abbrev s_before : Stmt := topS 24
theorem sc_before : FnScope ["rule", "number", "times", "plus", "bound", "shared", "apart", "least"] ["rule", "number"] (defScope s_before) := ⟨rfl, rfl, rfl, by decide +kernel, rfl, by decide +kernel, by decide +kernel⟩
section
variable {P : Program} {w : World} {K : PySem.W.Frag} {mg : Str → Option Value} {base : Heap}
theorem ok_before {CN : Addr} (D : Top K mg "before" s_before ["rule", "number"]) (h_check_number : Has P w K mg base (L2.CX P w) 3 "check_number" ["number", "bound"] (sp2 (pCheck CN))) (h_common_divisor : Has P w K mg base CX0 1 "common_divisor" ["one", "other"] (sp2 pGcd)) (h_inverse : Has P w K mg base CX0 1 "inverse" ["number", "bound"] (sp2 pInv)) :
    Has P w K mg base (L2.CX P w) 4 "before" ["rule", "number"] (sp2 (pBefore K CN)) := by
  refine D.ok2X sc_before (fun f cdv A outer s H v1 v2 Q E hr h => ?_)
  obtain ⟨r, t, p, m, n, rfl, rfl, h1, R, eN, q0, q1⟩ := h
  refine ⟨_, (pss_cons (ps_asg (pv 0) (pg_tup rfl (pgs_cons (pg_name (i := 2) sc_before.nd rfl (.inl rfl)) (pgs_cons (pg_name (i := 3) sc_before.nd rfl (.inl rfl)) (pgs_cons (pg_name (i := 4) sc_before.nd rfl (.inl rfl)) pgs_nil)))))
 (pss_cons (ps_expr (pe_own h_check_number (hr.mono (by decide)) (passes_call (takes_of rfl rfl rfl rfl) (fun _ _ _ _ z => z)) (pa_cons (pv 1) (pa_cons (pv 4) pa_nil))))
 (pss_cons (ps_set (i := 5) sc_before.nd rfl (.inl rfl) (pe_own h_common_divisor (hr.mono (by decide)) pass0 (pa_cons (pv 2) (pa_cons (pv 4) pa_nil))))
 (pss_cons (ps_if (pt_cmpR op_ne (pe_op op_mod (pe_op op_sub (pv 1) (pv 3)) (pv 5)) pe_int (nomark _)) (pss_one (ps_ret (pe_tup (pa_cons pe_int (pa_cons pe_non pa_nil))))) pss_nil)
 (pss_cons (ps_set (i := 6) sc_before.nd rfl (.inl rfl) (pe_op op_fdivB (pv 4) (pv 5)))
 (pss_cons (ps_set (i := 7) sc_before.nd rfl (.inl rfl) (pe_op op_mod (pe_op op_mulB (pe_op op_fdivB (pe_op op_sub (pv 1) (pv 3)) (pv 5)) (pe_own h_inverse (hr.mono (by decide)) pass0 (pa_cons (pe_op op_fdivB (pv 2) (pv 5)) (pa_cons (pv 6) pa_nil)))) (pv 6)))
 (pss_one (ps_ret (pe_tup (pa_cons (pv 5) (pa_cons (pv 7) pa_nil))))))))))), ?_⟩
  have m0 : 0 < m := by have := R.b1; omega
  have t0 := R.t0
  have t1 := R.t1
  have p0 := R.p0
  have p1 := R.p1
  have b2 := R.b2
  have g0 := gcd_pos (t := t) m0
  obtain ⟨e1, e2, e3, e4⟩ := gcd_parts (t := t) m0
  have gm : (Int.gcd t m : Int) ≤ m := Int.le_of_dvd m0 (Int.gcd_dvd_right ..)
  refine ⟨_, rfl, r, _, rfl, h1, rfl, _, _, rfl, _, _, rfl, _, _, rfl, rfl, ?_⟩
  refine ⟨_, rfl, _, rfl, _, _, rfl, n, m, rfl, rfl, fun a0 a1 => ?_, eN⟩
  refine ⟨_, rfl, _, rfl, _, _, rfl, t, m, rfl, rfl, t0, by omega, ?_⟩
  refine ⟨_, rfl, _, rfl, _, _, rfl, rfl, _, rfl, _, _, rfl, rfl, g0, rfl, _, rfl, ifNI (fun nz => ?_) (fun z => ?_)⟩
  · exact ⟨by show 2 ≤ sizeLine; decide, fun u nu => q0 ⟨a0, a1⟩ nz _ u (same_new nu) nu upd_same⟩
  · have me : m / (Int.gcd t m : Nat) ≤ m := Int.ediv_le_self _ (by omega)
    have cb : -1000000000000 ≤ (n - p) / (Int.gcd t m : Nat) ∧ (n - p) / (Int.gcd t m : Nat) ≤ 1000000000000 := by
      constructor
      · rw [Int.le_ediv_iff_mul_le g0]
        have := mul_bd (show (0:Int) ≤ 1000000000000 by decide) (Int.le_refl _) (show (0:Int) ≤ 1 by decide) (show (1:Int) ≤ (Int.gcd t m : Nat) by omega)
        omega
      · exact Int.le_trans (Int.ediv_le_ediv g0 (show n - p ≤ 1000000000000 by omega)) (Int.ediv_le_self _ (by decide))
    have tp : 0 ≤ t / (Int.gcd t m : Nat) := Int.ediv_nonneg t0 (by omega)
    refine ⟨_, rfl, _, rfl, _, _, rfl, rfl, ⟨g0, by omega⟩, ?_⟩
    refine ⟨_, rfl, _, rfl, _, _, rfl, rfl, _, rfl, _, _, rfl, rfl, ⟨g0, by omega⟩, ?_⟩
    refine ⟨_, rfl, _, rfl, _, _, rfl, rfl, ⟨g0, by omega⟩, _, rfl, _, _, rfl, _, _, rfl, rfl, tp, e3, by omega, e4, fun H1 v s1 v0 v1 hv => ?_⟩
    refine ⟨_, _, rfl, rfl, ⟨by unfold Big; omega, by unfold Big; omega⟩, _, rfl, _, _, rfl, rfl, e3, ?_⟩
    refine ⟨_, rfl, _, rfl, by show 2 ≤ sizeLine; decide, fun u nu => ?_⟩
    exact q1 ⟨a0, a1⟩ z _ u _ (s1.trans (same_new nu)) (s1.free nu) (bef_of m0 a0 a1 z hv) upd_same
end
end Tw


namespace Tw
open PySem PySem.Spec PyProof.Rows L2
abbrev s_gaps_of : Stmt := topS 31
theorem sc_gaps_of : FnScope ["row", "number", "later"] ["row"] (defScope s_gaps_of) := ⟨rfl, rfl, rfl, by decide +kernel, rfl, by decide +kernel, by decide +kernel⟩
section
variable {P : Program} {w : World} {K : PySem.W.Frag} {mg : Str → Option Value} {base : Heap}
theorem ok_gaps_of (D : Top K mg "gaps_of" s_gaps_of ["row"]) (z_zip : mg "zip" = none) : Has P w K mg base CX0 1 "gaps_of" ["row"] (sp1 (pGapsOf K)) := by
  refine D.ok1 sc_gaps_of (fun f cdv A outer s H v1 Q E hr h => ?_)
  obtain ⟨r, xs, rfl, hS, hl, q⟩ := h
  refine ⟨_, (pss_one (ps_ret (pe_lc (own := [("number", 1), ("later", 2)]) (by rfl) sc_gaps_of.nd (pi_x2 (by rfl) z_zip (pa_cons (pv 0) (pa_cons (pe_slice sl_tupX (pv 0) (po_some pe_int) po_none) pa_nil))) (blkOk_by (own := [("number", 1), ("later", 2)]) (N := ["row", "number", "later"]) (sc := defScope s_gaps_of) (by decide +kernel)) (fun _ _ _ _ _ => tup_in (K := K) (n := 2) rfl rfl (pgs_cons (pg_name (i := 1) sc_gaps_of.nd rfl (Or.inl rfl)) (pgs_cons (pg_name (i := 2) sc_gaps_of.nd rfl (Or.inl rfl)) pgs_nil))) (fun _ _ _ _ _ => pts_nil) (fun _ _ _ _ _ => (pe_op op_sub (pv 2) (pv 1)))))), ?_⟩
  refine ⟨_, rfl, _, rfl, _, rfl, r, _, rfl, hS, fun H1 u s1 hu => ?_⟩
  rw [show (some (1 : Int)) = some ((1 : Nat) : Int) from rfl, cut_dropI] at hu
  refine ⟨true, true, r, u, _, _, rfl, s1.tup hS, hu, fun L nL => ?_⟩
  refine lc_it (walk_x2 (K := K) (t1 := true) (t2 := true) (a1 := r) (a2 := u) (l1 := xs.map V.int) (l2 := (xs.drop 1).map V.int) (n := xs.length - 1) (by rw [List.length_map, List.length_map, List.length_drop]; omega)) (fun j H' => ∃ H0, Same H1 H0 ∧ H0 L = none ∧ H' = upd H0 L (.lst (((List.range j).map (gat xs)).map V.int))) ⟨H1, fun _ _ z => z, nL, rfl⟩ ?_ ?_ ?_
  · rintro i H' _ ⟨H0, s0, n0, rfl⟩
    have s2 : Same H1 (upd H0 L (.lst (((List.range i).map (gat xs)).map V.int))) := s0.trans (same_new n0)
    exact ⟨s2.tup (s1.tup hS), s2.tup hu⟩
  · rintro i x H' H'' hi ⟨H0, s0, n0, rfl⟩ ⟨T, x1, x2, rfl, nT, rfl, g1, g2⟩
    obtain ⟨rfl, l1⟩ := vget g1
    obtain ⟨rfl, l2⟩ := vgetd g2
    have neT : L ≠ T := fun z => by rw [← z, upd_same] at nT; cases nT
    have nT0 : H0 T = none := by rw [upd_ne (Ne.symm neT)] at nT; exact nT
    refine ⟨T, _, rfl, SqT.of upd_same, rfl, _, _, rfl, _, _, rfl, rfl, rfl, yesX ?_⟩
    refine ⟨_, rfl, _, rfl, _, _, rfl, rfl, _, by rw [upd_ne neT, upd_same], szl (by rw [List.length_map, List.length_map, List.length_range]; omega), ?_⟩
    refine ⟨upd H0 T (.tup [.int (xs.getD i 0), .int (xs.getD (1 + i) 0)]), s0.trans (same_new nT0), by rw [upd_ne neT]; exact n0, ?_⟩
    rw [upd_swap neT, upd_upd, List.range_succ, List.map_append, List.map_append, show 1 + i = i + 1 by omega]
    rfl
  · rintro H' ⟨H0, s0, n0, rfl⟩
    exact q _ L (s1.trans (s0.trans (same_new n0))) (s1.free nL) upd_same
end
end Tw


namespace Tw
open PySem PySem.Spec PyProof.Rows L2
abbrev s_narrowed : Stmt := topS 32
theorem sc_narrowed : FnScope ["fit", "gap", "later", "bound", "least", "step", "many", "count"] ["fit", "gap", "later", "bound"] (defScope s_narrowed) := ⟨rfl, rfl, rfl, by decide +kernel, rfl, by decide +kernel, by decide +kernel⟩
abbrev s_fits_on_the_way : Stmt := topS 30
theorem sc_fits_on_the_way : FnScope ["row", "bound", "number", "gaps", "fits", "gap", "later"] ["row", "bound"] (defScope s_fits_on_the_way) := ⟨rfl, rfl, rfl, by decide +kernel, rfl, by decide +kernel, by decide +kernel⟩
abbrev s_times_that_fit : Stmt := topS 26
theorem sc_times_that_fit : FnScope ["row", "bound"] ["row", "bound"] (defScope s_times_that_fit) := ⟨rfl, rfl, rfl, by decide +kernel, rfl, by decide +kernel, by decide +kernel⟩
section
variable {P : Program} {w : World} {K : PySem.W.Frag} {mg : Str → Option Value} {base : Heap}
theorem ok_narrowed {CN : Addr} (D : Top K mg "narrowed" s_narrowed ["fit", "gap", "later", "bound"]) (h_before : Has P w K mg base (L2.CX P w) 4 "before" ["rule", "number"] (sp2 (pBefore K CN))) : Has P w K mg base CX0 5 "narrowed" ["fit", "gap", "later", "bound"] (sp4 pNarrow) := by
  refine D.ok4q sc_narrowed (fun f cdv A outer s H v1 v2 v3 v4 Q E hr h => ?_)
  obtain ⟨v, xs, k, m, rfl, rfl, rfl, rfl, hF, m1, m2, rg, q⟩ := h
  refine ⟨_, (pss_cons (ps_if (pt_cmpR op_isN (pv 0) pe_non (nomark _)) (pss_one (ps_ret pe_non)) pss_nil)
 (pss_cons (ps_asg (pv 0) (pg_tup rfl (pgs_cons (pg_name (i := 4) sc_narrowed.nd rfl (.inl rfl)) (pgs_cons (pg_name (i := 5) sc_narrowed.nd rfl (.inl rfl)) pgs_nil))))
 (pss_cons (ps_asg (pe_own h_before (hr.mono (by decide)) passL (pa_cons (pe_tup (pa_cons (pe_op op_mod (pe_op op_mulB (pv 5) (pv 1)) (pv 3)) (pa_cons (pe_op op_mod (pe_op op_mulB (pv 4) (pv 1)) (pv 3)) (pa_cons (pv 3) pa_nil)))) (pa_cons (pe_op op_mod (pv 2) (pv 3)) pa_nil))) (pg_tup rfl (pgs_cons (pg_name (i := 6) sc_narrowed.nd rfl (.inl rfl)) (pgs_cons (pg_name (i := 7) sc_narrowed.nd rfl (.inl rfl)) pgs_nil))))
 (pss_cons (ps_if (pt_cmpR op_eq (pv 6) pe_int (nomark _)) (pss_one (ps_ret pe_non)) pss_nil)
 (pss_one (ps_ret (pe_tup (pa_cons (pe_op op_add (pv 4) (pe_op op_mulB (pv 7) (pv 5))) (pa_cons (pe_op op_mulB (pe_op op_fdivB (pv 3) (pv 6)) (pv 5)) pa_nil))))))))), ?_⟩
  have m0 : 0 < m := by omega
  rcases hF with ⟨rfl, hF⟩ | ⟨a, l, st, rfl, ha, hF⟩
  · refine ⟨_, rfl, rfl, _, rfl, ifT rfl ?_⟩
    exact q H .non (fun _ _ z => z) (.inl ⟨rfl, fitR_none_mono hF (Nat.le_succ k)⟩) (fun q e => by cases e)
  have hF' := hF
  obtain ⟨s0, sd, l0, l1, _⟩ := hF'
  have sm : st ≤ m := Int.le_of_dvd m0 sd
  have g1 := gat_rng m0 rg k
  have g2 := gat_rng m0 rg (k + 1)
  have t1 := mod_bd (st * gat xs k) m0
  have p1 := mod_bd (l * gat xs k) m0
  have n1 := mod_bd (gat xs (k + 1)) m0
  refine ⟨_, rfl, rfl, _, rfl, ifF rfl ?_⟩
  refine ⟨_, rfl, a, _, rfl, SqT.of ha, rfl, _, _, rfl, _, _, rfl, rfl, ?_⟩
  refine ⟨_, rfl, _, rfl, _, _, rfl, rfl, ⟨by unfold Big; omega, by unfold Big; omega⟩, _, rfl, _, _, rfl, rfl, m0, ?_⟩
  refine ⟨_, rfl, _, rfl, _, _, rfl, rfl, ⟨by unfold Big; omega, by unfold Big; omega⟩, _, rfl, _, _, rfl, rfl, m0, _, rfl, by show 3 ≤ sizeLine; decide, fun u nu => ?_⟩
  have su := same_new (o := .tup [.int (st * gat xs k % m), .int (l * gat xs k % m), .int m]) nu
  refine ⟨_, rfl, _, rfl, _, _, rfl, rfl, m0, _, _, rfl, u, st * gat xs k % m, l * gat xs k % m, m, gat xs (k + 1) % m, rfl, rfl, SqT.of upd_same, ⟨m1, m2, t1.1, t1.2, p1.1, p1.2⟩, fun z => absurd n1 z, fun _ hz => ?_, fun _ hz => ?_⟩
  · intro H1 z s1 nz hz1
    refine ⟨z, _, rfl, SqT.of hz1, rfl, _, _, rfl, _, _, rfl, rfl, ?_⟩
    refine ⟨_, rfl, rfl, _, rfl, ifI (fun _ => ?_) (fun e => absurd rfl e)⟩
    exact q H1 .non (su.trans s1) (.inl ⟨rfl, fit_none m0 hF hz⟩) (fun q e => by cases e)
  · intro H1 z x s1 nz hB hz1
    have gp := gcd_pos (t := st * gat xs k % m) m0
    have gm : (Int.gcd (st * gat xs k % m) m : Int) ≤ m := Int.le_of_dvd m0 (Int.gcd_dvd_right ..)
    have B0 := hB.1
    have B1 := hB.2.1
    have dm : m / (Int.gcd (st * gat xs k % m) m : Nat) ≤ m := Int.ediv_le_self _ (by omega)
    have d0 : 0 ≤ m / (Int.gcd (st * gat xs k % m) m : Nat) := Int.ediv_nonneg (by omega) (by omega)
    refine ⟨z, _, rfl, SqT.of hz1, rfl, _, _, rfl, _, _, rfl, rfl, ?_⟩
    refine ⟨_, rfl, rfl, _, rfl, ifI (fun e => by omega) (fun e => ?_)⟩
    refine ⟨_, rfl, _, rfl, _, rfl, _, _, rfl, rfl, ⟨by unfold Big; omega, by unfold Big; omega⟩, _, _, rfl, rfl, ?_⟩
    refine ⟨_, rfl, _, rfl, _, _, rfl, rfl, ⟨gp, by omega⟩, _, rfl, _, _, rfl, rfl, ⟨by unfold Big; omega, by unfold Big; omega⟩, by show 2 ≤ sizeLine; decide, fun y ny => ?_⟩
    have s2 := su.trans s1
    refine q _ (.ref y) (s2.trans (same_new ny)) (.inr ⟨y, _, _, rfl, upd_same, fit_some m0 hF hB⟩) (fun q e => by cases e; exact s2.free ny)
theorem ok_fits_on_the_way {CN : Addr} (D : Top K mg "fits_on_the_way" s_fits_on_the_way ["row", "bound"]) (h_check_number : Has P w K mg base (L2.CX P w) 3 "check_number" ["number", "bound"] (sp2 (pCheck CN))) (h_gaps_of : Has P w K mg base CX0 1 "gaps_of" ["row"] (sp1 (pGapsOf K))) (h_narrowed : Has P w K mg base CX0 5 "narrowed" ["fit", "gap", "later", "bound"] (sp4 pNarrow)) (z_zip : mg "zip" = none) :
    Has P w K mg base (L2.CX P w) 6 "fits_on_the_way" ["row", "bound"] (sp2 (pFits K CN)) := by
  refine D.ok2X sc_fits_on_the_way (fun f cdv A outer s H v1 v2 Q E hr h => ?_)
  obtain ⟨r, xs, m, rfl, rfl, hS, m1, m2, hl, q, eB⟩ := h
  refine ⟨_, (pss_cons (ps_for (passes_of rfl) rfl (pi_tup (pv 0)) (pg_name (i := 2) sc_fits_on_the_way.nd rfl (.inl rfl)) (pss_one (ps_expr (pe_own h_check_number (hr.mono (by decide)) (passes_call (takes_of rfl rfl rfl rfl) (fun _ _ _ _ z => z)) (pa_cons (pv 2) (pa_cons (pv 1) pa_nil))))))
 (pss_cons (ps_set (i := 3) sc_fits_on_the_way.nd rfl (.inl rfl) (pe_own h_gaps_of (hr.mono (by decide)) pass0 (pa_cons (pv 0) pa_nil)))
 (pss_cons (ps_set (i := 4) sc_fits_on_the_way.nd rfl (.inl rfl) (pe_lst (pa_cons (pe_tup (pa_cons pe_int (pa_cons pe_int pa_nil))) pa_nil)))
 (pss_cons (ps_for (passes_of rfl) rfl (pi_x2 (by rfl) z_zip (pa_cons (pv 3) (pa_cons (pe_slice sl_list (pv 3) (po_some pe_int) po_none) pa_nil))) (pg_tup rfl (pgs_cons (pg_name (i := 5) sc_fits_on_the_way.nd rfl (.inl rfl)) (pgs_cons (pg_name (i := 6) sc_fits_on_the_way.nd rfl (.inl rfl)) pgs_nil))) (pss_one (ps_expr (pe_bm PySem.F.plainAttrs_list PySem.F.slot_list_append PySem.F.type_list_append mt_append (pv 4) (pa_cons (pe_own h_narrowed (hr.mono (by decide)) pass0 (pa_cons (pe_ix ix_list (pv 4) (pe_un un_neg pe_int) (fun _ _ => rfl)) (pa_cons (pv 5) (pa_cons (pv 6) (pa_cons (pv 1) pa_nil))))) pa_nil)))))
 (pss_one (ps_ret (pv 4))))))), ?_⟩
  have m0 : 0 < m := by omega
  refine ⟨_, rfl, r, rfl, ⟨_, hS⟩, ?_⟩
  refine for_it (walk_tup (K := K) (a := r) (xs := xs.map V.int)) (fun i σ H' => ∃ (y : Option V), σ = [some (.ref r), some (.int m), y, none, none, none, none] ∧ H' = H ∧ ∀ j, j < i → 0 ≤ xs.getD j 0 ∧ xs.getD j 0 < m) ⟨none, rfl, rfl, fun j hj => absurd hj (Nat.not_lt_zero _)⟩ ?_ ?_ ?_
  · rintro i σ H' _ ⟨y, rfl, rfl, _⟩
    exact hS
  · rintro i x σ H' H'' hi ⟨y, rfl, rfl, ih⟩ ⟨rfl, hx⟩
    obtain ⟨rfl, li⟩ := vget hx
    refine ⟨_, rfl, _, rfl, _, _, rfl, xs.getD i 0, m, rfl, rfl, fun a0 a1 => ?_, fun nb => eB i ⟨li, nb, ih⟩⟩
    refine ⟨_, rfl, rfl, fun j hj => ?_⟩
    by_cases e : j = i
    · rw [e]; exact ⟨a0, a1⟩
    · exact ih j (by omega)
  rintro σ H' ⟨y, rfl, rfl, ih⟩
  rw [List.length_map] at ih
  have rg : Rng m xs := by
    rcases rng_or_bad m xs with h | ⟨i, h⟩
    · exact h
    · exact absurd (ih i h.1) h.2.1
  refine ⟨_, rfl, _, rfl, r, xs, rfl, hS, hl, fun H1 l s1 nl h1 => ?_⟩
  refine ⟨by show 2 ≤ sizeLine; decide, fun p np => ?_⟩
  have s2 := same_new (o := .tup [.int 0, .int 1]) np
  refine ⟨by show 1 ≤ sizeLine; decide, fun fi nfi => ?_⟩
  have s3 := same_new (o := .lst [.ref p]) nfi
  refine ⟨_, rfl, _, rfl, _, rfl, l, _, rfl, SqL.of (s3 _ _ (s2 _ _ h1)), fun l2 nl2 => ?_⟩
  rw [show (some (1 : Int)) = some ((1 : Nat) : Int) from rfl, cut_dropI]
  have s4 := same_new (o := .lst (((gp xs).drop 1).map V.int)) nl2
  have hp4 : (upd (upd (upd H1 p (.tup [.int 0, .int 1])) fi (.lst [.ref p])) l2 (.lst (((gp xs).drop 1).map V.int))) p = some (.tup [.int 0, .int 1]) := s4 _ _ (s3 _ _ upd_same)
  have hf4 : (upd (upd (upd H1 p (.tup [.int 0, .int 1])) fi (.lst [.ref p])) l2 (.lst (((gp xs).drop 1).map V.int))) fi = some (.lst [.ref p]) := s4 _ _ upd_same
  have hl4 := s4 _ _ (s3 _ _ (s2 _ _ h1))
  have hm4 : (upd (upd (upd H1 p (.tup [.int 0, .int 1])) fi (.lst [.ref p])) l2 (.lst (((gp xs).drop 1).map V.int))) l2 = some (.lst (((gp xs).drop 1).map V.int)) := upd_same
  have sA : Same H1 (upd (upd (upd H1 p (.tup [.int 0, .int 1])) fi (.lst [.ref p])) l2 (.lst (((gp xs).drop 1).map V.int))) := s2.trans (s3.trans s4)
  have nfi1 : H1 fi = none := s2.free nfi
  have nfil2' : fi ≠ l2 := ne_of_none (upd_same (H := upd H1 p (.tup [.int 0, .int 1])) (a := fi) (o := .lst [.ref p])) nl2
  generalize upd (upd (upd H1 p (.tup [.int 0, .int 1])) fi (.lst [.ref p])) l2 (.lst (((gp xs).drop 1).map V.int)) = H4 at hp4 hf4 hl4 hm4 sA
  have gl := gp_len xs
  have nfil : l ≠ fi := ne_of_none h1 nfi1
  have nfil2 : l2 ≠ fi := Ne.symm nfil2'
  refine ⟨false, false, l, l2, _, _, rfl, SqL.of hl4, SqL.of hm4, ?_⟩
  refine for_it (walk_x2 (K := K) (t1 := false) (t2 := false) (a1 := l) (a2 := l2) (l1 := (gp xs).map V.int) (l2 := ((gp xs).drop 1).map V.int) (n := xs.length - 2) (by simp only [List.length_map, List.length_drop, gl]; omega))
    (fun i σ H' => ∃ (y1 y2 : Option V) (vs : List V), σ = [some (.ref r), some (.int m), y, some (.ref l), some (.ref fi), y1, y2] ∧ (∀ b o, b ≠ fi → H4 b = some o → H' b = some o) ∧ H' fi = some (.lst vs) ∧ vs.length = i + 1 ∧ i ≤ xs.length - 2 ∧ FitsV m xs H' vs ∧ ∀ z, .ref z ∈ vs → H1 z = none) ?_ ?_ ?_ ?_
  · refine ⟨none, none, [.ref p], rfl, fun _ _ _ z => z, hf4, rfl, by omega, fun j v hv => ?_, fun z hz => ?_⟩
    · cases j with
      | zero =>
        cases hv
        exact .inr ⟨p, 0, 1, rfl, hp4, fitR_zero m0 xs⟩
      | succ j => cases hv
    · cases (List.mem_singleton.mp hz)
      exact np
  · rintro i σ H' _ ⟨y1, y2, vs, rfl, sm, hfi, _⟩
    exact ⟨SqL.of (sm _ _ nfil hl4), SqL.of (sm _ _ nfil2 hm4)⟩
  · rintro i x σ H' H'' hi ⟨y1, y2, vs, rfl, sm, hfi, lv, _, fv, nv⟩ ⟨T, x1, x2, rfl, nT, rfl, k1, k2⟩
    obtain ⟨rfl, b1⟩ := vget k1
    obtain ⟨rfl, b2⟩ := vgetd k2
    rw [gp_D (by omega), gp_D (by omega)]
    have sT := same_new (o := .tup [.int (gat xs i), .int (gat xs (1 + i))]) nT
    obtain ⟨vt, vl, rfl⟩ : ∃ vt vl, vs = vt ++ [vl] := by
      have : vs ≠ [] := fun z => by rw [z] at lv; exact absurd lv (by simp)
      exact ⟨vs.dropLast, vs.getLast this, (List.dropLast_concat_getLast this).symm⟩
    have lvt : vt.length = i := by rw [List.length_append] at lv; simp at lv; exact lv
    have fvl : FitV m xs i H' vl := fv i vl (by rw [List.getElem?_append_right (by omega), lvt, Nat.sub_self]; rfl)
    have hfiT := sT _ _ hfi
    refine ⟨T, _, rfl, SqT.of upd_same, rfl, _, _, rfl, _, _, rfl, rfl, ?_⟩
    refine ⟨_, rfl, .inl ⟨rfl, _, SqL.of hfiT⟩, _, rfl, _, rfl, fi, _, -1, _, rfl, rfl, SqL.of hfiT, atI_last _ _, _, rfl, _, rfl, _, rfl, _, _, _, _, rfl, vl, xs, i, m, rfl, rfl, by rw [show i + 1 = 1 + i by omega], rfl, fvl.same sT, m1, m2, rg, fun H2 v' s5 fv' nv' => ?_⟩
    have hfi2 := s5 _ _ hfiT
    refine ⟨fi, _, v', rfl, rfl, hfi2, szl (by rw [lv]; omega), ?_⟩
    have nfr : ∀ q, v' = .ref q → q ≠ fi := fun q e z => by
      have := nv' q e
      rw [z, hfiT] at this
      cases this
    refine ⟨_, _, vt ++ [vl] ++ [v'], rfl, fun b o nb hb => ?_, upd_same, ?_, by omega, fun j v hv => ?_, fun z hz => ?_⟩
    · rw [upd_ne nb]
      exact s5 _ _ (sT _ _ (sm _ _ nb hb))
    · rw [List.length_append, lv]
      rfl
    · have keep : ∀ v j, FitV m xs j H2 v → (∀ q, v = .ref q → q ≠ fi) → FitV m xs j (upd H2 fi (.lst (vt ++ [vl] ++ [v']))) v := fun v j h hn => by
        rcases h with h | ⟨q, l0, st, e, hq, rr⟩
        · exact .inl h
        · exact .inr ⟨q, l0, st, e, by rw [upd_ne (hn q e)]; exact hq, rr⟩
      by_cases e : j < (vt ++ [vl]).length
      · rw [List.getElem?_append_left e] at hv
        refine keep v j ((fv j v hv).same (sT.trans s5)) (fun q eq z => ?_)
        have h1 := nv q (by rw [← eq]; exact List.mem_of_getElem? hv)
        rw [z, nfi1] at h1
        subst z
        rcases fv j v hv with ⟨e1, _⟩ | ⟨q', _, _, e1, hq', _⟩
        · rw [eq] at e1; cases e1
        · rw [eq] at e1
          cases e1
          rw [hfi] at hq'
          cases hq'
      · have ej : j = i + 1 := by
          have := (List.getElem?_eq_some_iff.mp hv).1
          rw [List.length_append, lv] at this
          simp at this
          omega
        subst ej
        rw [List.getElem?_append_right (by omega), lv, Nat.sub_self] at hv
        cases hv
        exact keep v' (i + 1) fv' nfr
    · rcases List.mem_append.mp hz with hz | hz
      · exact nv z hz
      · have ez := List.mem_singleton.mp hz
        have h2 := nv' z ez.symm
        have h3 : H' z = none := sT.free h2
        cases e4 : H1 z with
        | none => rfl
        | some o =>
          have nz : z ≠ fi := nfr z ez.symm
          have := sm z o nz (sA _ _ e4)
          rw [h3] at this
          cases this
  · rintro σ H' ⟨y1, y2, vs, rfl, sm, hfi, lv, _, fv, nv⟩
    have sf : Same H1 H' := fun b o hb => sm b o (ne_of_none hb nfi1) (sA _ _ hb)
    exact ⟨_, rfl, q rg _ fi vs (s1.trans sf) (s1.free nfi1) hfi lv fv (fun z hz => s1.free (nv z hz))⟩
theorem ok_times_that_fit {CN : Addr} (D : Top K mg "times_that_fit" s_times_that_fit ["row", "bound"]) (h_fits_on_the_way : Has P w K mg base (L2.CX P w) 6 "fits_on_the_way" ["row", "bound"] (sp2 (pFits K CN))) :
    Has P w K mg base (L2.CX P w) 7 "times_that_fit" ["row", "bound"] (sp2 (pTimes K CN)) := by
  refine D.ok2X sc_times_that_fit (fun f cdv A outer s H v1 v2 Q E hr h => ?_)
  obtain ⟨r, xs, m, rfl, rfl, hS, m1, m2, hl, q, eB⟩ := h
  refine ⟨_, (pss_one (ps_ret (pe_ix ix_list (pe_own h_fits_on_the_way (hr.mono (by decide)) (passes_call (takes_of rfl rfl rfl rfl) (fun _ _ _ _ z => z)) (pa_cons (pv 0) (pa_cons (pv 1) pa_nil))) (pe_un un_neg pe_int) (fun _ _ => rfl)))), ?_⟩
  refine ⟨_, rfl, _, rfl, _, _, rfl, r, xs, m, rfl, rfl, hS, m1, m2, hl, fun rg H1 l vs s1 nl h1 lv fv nv => ?_, eB⟩
  obtain ⟨vt, vl, rfl⟩ : ∃ vt vl, vs = vt ++ [vl] := by
    have : vs ≠ [] := fun z => by rw [z] at lv; exact absurd lv (by simp)
    exact ⟨vs.dropLast, vs.getLast this, (List.dropLast_concat_getLast this).symm⟩
  have lvt : vt.length = xs.length - 2 := by rw [List.length_append] at lv; simp at lv; exact lv
  refine ⟨_, rfl, l, _, -1, _, rfl, rfl, SqL.of h1, atI_last _ _, ?_⟩
  exact q rg _ vl s1 (fv _ vl (by rw [List.getElem?_append_right (by omega), lvt, Nat.sub_self]; rfl)) (fun z e => nv z (by rw [e]; simp))
end
end Tw


namespace Tw
open PySem PySem.Spec PyProof.Rows L2
abbrev s_rules_that_fit : Stmt := topS 27
theorem sc_rules_that_fit : FnScope ["row", "bound", "many", "fit", "least", "step", "end", "place", "times"] ["row", "bound", "many"] (defScope s_rules_that_fit) := ⟨rfl, rfl, rfl, by decide +kernel, rfl, by decide +kernel, by decide +kernel⟩
section
variable {P : Program} {w : World} {K : PySem.W.Frag} {mg : Str → Option Value} {base : Heap}
theorem ok_rules_that_fit {CN : Addr} (D : Top K mg "rules_that_fit" s_rules_that_fit ["row", "bound", "many"]) (h_times_that_fit : Has P w K mg base (L2.CX P w) 7 "times_that_fit" ["row", "bound"] (sp2 (pTimes K CN))) (z_len : mg "len" = none) (z_min : mg "min" = none) (z_range : mg "range" = none) :
    Has P w K mg base (L2.CX P w) 8 "rules_that_fit" ["row", "bound", "many"] (sp3 (pRules K CN)) := by
  refine D.ok3X sc_rules_that_fit (fun f cdv A outer s H v1 v2 v3 Q E hr h => ?_)
  obtain ⟨r, xs, m, n, rfl, rfl, rfl, hS, m1, m2, n0, n1, x2, hl, q, eB⟩ := h
  refine ⟨_, (pss_cons (ps_set (i := 3) sc_rules_that_fit.nd rfl (.inl rfl) (pe_own h_times_that_fit (hr.mono (by decide)) (passes_call (takes_of rfl rfl rfl rfl) (fun _ _ _ _ z => z)) (pa_cons (pv 0) (pa_cons (pv 1) pa_nil))))
 (pss_cons (ps_if (pt_cmpR op_isN (pv 3) pe_non (nomark _)) (pss_one (ps_ret (pe_lst pa_nil))) pss_nil)
 (pss_cons (ps_if (pt_cmpR op_lt (pe_callB (id := "len") call_len_seq (by rfl) z_len (by decide +kernel) (pa_cons (pv 0) pa_nil)) pe_int (nomark _)) (pss_one (ps_ret (pe_lc (own := [("place", 7)]) (by rfl) sc_rules_that_fit.nd (pi_range1 (by rfl) z_range (pa_cons (pe_callB (id := "min") (call_min2 rfl) (by rfl) z_min (by decide +kernel) (pa_cons (pv 2) (pa_cons (pe_op op_mulB (pv 1) (pv 1)) pa_nil))) pa_nil)) (blkOk_by (own := [("place", 7)]) (N := ["row", "bound", "many", "fit", "least", "step", "end", "place", "times"]) (sc := defScope s_rules_that_fit) (by decide +kernel)) (fun _ _ _ _ _ => pg_name (i := 7) sc_rules_that_fit.nd rfl (Or.inl rfl)) (fun _ _ _ _ _ => pts_nil) (fun _ _ _ _ _ => (pe_tup (pa_cons (pe_op op_fdivB (pv 7) (pv 1)) (pa_cons (pe_op op_mod (pv 7) (pv 1)) (pa_cons (pv 1) pa_nil)))))))) pss_nil)
 (pss_cons (ps_asg (pv 3) (pg_tup rfl (pgs_cons (pg_name (i := 4) sc_rules_that_fit.nd rfl (.inl rfl)) (pgs_cons (pg_name (i := 5) sc_rules_that_fit.nd rfl (.inl rfl)) pgs_nil))))
 (pss_cons (ps_set (i := 6) sc_rules_that_fit.nd rfl (.inl rfl) (pe_callB (id := "min") (call_min2 rfl) (by rfl) z_min (by decide +kernel) (pa_cons (pv 1) (pa_cons (pe_op op_add (pv 4) (pe_op op_mulB (pv 5) (pv 2))) pa_nil))))
 (pss_one (ps_ret (pe_lc (own := [("times", 8)]) (by rfl) sc_rules_that_fit.nd (pi_rangeS (by rfl) z_range (pa_cons (pv 4) (pa_cons (pv 6) (pa_cons (pv 5) pa_nil)))) (blkOk_by (own := [("times", 8)]) (N := ["row", "bound", "many", "fit", "least", "step", "end", "place", "times"]) (sc := defScope s_rules_that_fit) (by decide +kernel)) (fun _ _ _ _ _ => pg_name (i := 8) sc_rules_that_fit.nd rfl (Or.inl rfl)) (fun _ _ _ _ _ => pts_nil) (fun _ _ _ _ _ => (pe_tup (pa_cons (pv 8) (pa_cons (pe_op op_mod (pe_op op_sub (pe_ix (ix_tup : IxR _ (rIxT K)) (pv 0) pe_int (fun _ _ => rfl)) (pe_op op_mulB (pv 8) (pe_ix (ix_tup : IxR _ (rIxT K)) (pv 0) pe_int (fun _ _ => rfl)))) (pv 1)) (pa_cons (pv 1) pa_nil))))))))))))), ?_⟩
  have m0 : 0 < m := by omega
  refine ⟨_, rfl, _, rfl, _, _, rfl, r, xs, m, rfl, rfl, hS, m1, m2, hl, fun rg H1 v s1 fv _ => ?_, eB⟩
  have hr1 := s1.tup hS
  rcases fv with ⟨rfl, fo⟩ | ⟨a, l, st, rfl, ha, fo⟩
  · refine ⟨_, rfl, rfl, _, rfl, ifT rfl ?_⟩
    refine ⟨by show 0 ≤ sizeLine; decide, fun L nL => ?_⟩
    exact q rg _ L [] none (s1.trans (same_new nL)) (s1.free nL) upd_same (TRows.nil _) fo
  have fo' := fo
  obtain ⟨s0, sd, l0, l1, _⟩ := fo'
  have sm : st ≤ m := Int.le_of_dvd m0 sd
  refine ⟨_, rfl, rfl, _, rfl, ifF rfl ?_⟩
  refine ⟨_, rfl, r, _, rfl, .inr hr1, _, _, rfl, rfl, _, rfl, ifD (fun z => absurd z (by rw [List.length_map]; omega)) (fun _ => ?_)⟩
  refine ⟨_, rfl, a, _, rfl, SqT.of ha, rfl, _, _, rfl, _, _, rfl, rfl, ?_⟩
  have mb := mul_bd (show 0 ≤ st by omega) sm n0 n1
  refine ⟨_, rfl, _, rfl, _, rfl, _, rfl, _, _, rfl, rfl, ⟨by unfold Big; omega, by unfold Big; omega⟩, _, _, rfl, rfl, _, _, rfl, ?_⟩
  have hc := rg_count m0 s0 sd l0 l1 n0
  have mm : m / st ≤ m := Int.ediv_le_self _ (by omega)
  refine ⟨_, rfl, _, rfl, _, rfl, _, _, _, rfl, ⟨s0, by omega, by omega, by omega, ?_, ?_⟩, fun L nL => ?_⟩
  · split <;> omega
  · split <;> omega
  rw [hc]
  have cn : ((min n (m / st)).toNat : Int) ≤ 3000 := by omega
  generalize hN : (min n (m / st)).toNat = N at cn
  have g0 := getD_rng m0 rg 0
  have g1 := getD_rng m0 rg 1
  refine lc_it (walk_rangeC (lo := l) (c := st) (n := N)) (fun j H' => ∃ ps : List Addr, H' L = some (.lst (ps.map V.ref)) ∧ TRows H' ps (rulesN m xs l st j) ∧ Same H1 H' ∧ j ≤ N) ⟨[], upd_same, TRows.nil _, same_new nL, by omega⟩ (fun _ _ _ _ => trivial) ?_ ?_
  · rintro j x H' H'' hj ⟨ps, hL, T, sm', _⟩ ⟨rfl, rfl⟩
    have js : (j : Int) * st ≤ 3000 * 1000000000000 := (mul_bd (show (0:Int) ≤ (j : Int) by omega) (show (j : Int) ≤ 3000 by omega) (show 0 ≤ st by omega) (show st ≤ 1000000000000 by omega)).2
    have js0 := Int.mul_nonneg (show (0:Int) ≤ (j : Int) by omega) (show 0 ≤ st by omega)
    refine ⟨rfl, yesX ?_⟩
    have hr2 := sm'.tup hr1
    refine ⟨_, rfl, _, rfl, r, _, 1, _, rfl, rfl, hr2, atD (n := 1) rfl (by omega), _, rfl, _, rfl, r, _, 0, _, rfl, rfl, hr2, atD (n := 0) rfl (by omega), _, _, rfl, rfl, ⟨by unfold Big; omega, by unfold Big; omega⟩, _, _, rfl, rfl, _, rfl, _, _, rfl, rfl, m0, _, rfl, by show 3 ≤ sizeLine; decide, fun p np => ?_⟩
    have sp := same_new (o := .tup [.int (l + (j : Int) * st), .int ((xs.getD 1 0 - (l + (j : Int) * st) * xs.getD 0 0) % m), .int m]) np
    have hL2 := sp _ _ hL
    have lp : ps.length = j := T.1.trans (rulesN_len ..)
    refine ⟨_, hL2, szl (by rw [List.length_map, lp]; omega), ps ++ [p], ?_, ?_, ?_, by omega⟩
    · rw [upd_same, List.map_append]
      rfl
    · rw [rulesN_succ]
      exact ((T.same sp).snoc (p := p) (r := ruleOf m xs (l + (j : Int) * st)) upd_same).mut hL2
    · exact fun b o hb => by
        rw [upd_ne (ne_of_none hb nL)]
        exact sp _ _ (sm' _ _ hb)
  · rintro H' ⟨ps, hL, T, sm', _⟩
    refine q rg _ L ps (some (l, st)) (s1.trans sm') (s1.free nL) hL ?_ fo
    show TRows H' ps (rulesN m xs l st (min n (m / st)).toNat)
    rw [hN]
    exact T
end
end Tw


namespace Tw
open PySem PySem.Spec PyProof.Rows L2
abbrev s_settled_by : Stmt := topS 28
theorem sc_settled_by : FnScope ["row", "bound", "fits", "steps", "least", "step"] ["row", "bound"] (defScope s_settled_by) := ⟨rfl, rfl, rfl, by decide +kernel, rfl, by decide +kernel, by decide +kernel⟩
abbrev s_number_behind : Stmt := topS 29
theorem sc_number_behind : FnScope ["row", "bound", "rules", "behind", "rule"] ["row", "bound"] (defScope s_number_behind) := ⟨rfl, rfl, rfl, by decide +kernel, rfl, by decide +kernel, by decide +kernel⟩
section
variable {P : Program} {w : World} {K : PySem.W.Frag} {mg : Str → Option Value} {base : Heap}
theorem ok_settled_by {CN : Addr} (D : Top K mg "settled_by" s_settled_by ["row", "bound"]) (h_fits_on_the_way : Has P w K mg base (L2.CX P w) 6 "fits_on_the_way" ["row", "bound"] (sp2 (pFits K CN))) (z_len : mg "len" = none) :
    Has P w K mg base (L2.CX P w) 7 "settled_by" ["row", "bound"] (sp2 (pSettled K CN)) := by
  refine D.ok2X sc_settled_by (fun f cdv A outer s H v1 v2 Q E hr h => ?_)
  obtain ⟨r, xs, m, rfl, rfl, hS, m1, m2, x2, hl, q, eB⟩ := h
  refine ⟨_, (pss_cons (ps_set (i := 2) sc_settled_by.nd rfl (.inl rfl) (pe_own h_fits_on_the_way (hr.mono (by decide)) (passes_call (takes_of rfl rfl rfl rfl) (fun _ _ _ _ z => z)) (pa_cons (pv 0) (pa_cons (pv 1) pa_nil))))
 (pss_cons (ps_if (PW.pt (pw_or (pt_cmpR op_isN (pe_ix ix_list (pv 2) (pe_un un_neg pe_int) (fun _ _ => rfl)) pe_non (nomark _)) (pw_or1 (pt_cmpR op_lt (pe_callB (id := "len") call_len_seq (by rfl) z_len (by decide +kernel) (pa_cons (pv 0) pa_nil)) pe_int (nomark _))))) (pss_one (ps_ret pe_non)) pss_nil)
 (pss_cons (ps_setLc (i := 3) (own := [("least", 4), ("step", 5)]) (by rfl) sc_settled_by.nd rfl rfl (sw_true rfl rfl rfl (by decide +kernel)) (pi_list (pv 2)) (blkOk_by (own := [("least", 4), ("step", 5)]) (N := ["row", "bound", "fits", "steps", "least", "step"]) (sc := defScope s_settled_by) (by decide +kernel)) (fun _ _ _ _ _ => tup_in (K := K) (n := 2) rfl rfl (pgs_cons (pg_name (i := 4) sc_settled_by.nd rfl (Or.inl rfl)) (pgs_cons (pg_name (i := 5) sc_settled_by.nd rfl (Or.inl rfl)) pgs_nil))) (fun _ _ _ _ _ => pts_nil) (fun _ _ _ _ _ => (pv 5)))
 (pss_one (ps_ret (pe_ifExp (pt_cmpR op_in_seq (pv 1) (pv 3) (by rfl)) (pe_op op_add (pe_bm PySem.F.plainAttrs_list PySem.F.slot_list_index PySem.F.type_list_index mt_index (pv 3) (pa_cons (pv 1) pa_nil)) pe_int) pe_non)))))), ?_⟩
  have m0 : 0 < m := by omega
  refine ⟨_, rfl, _, rfl, _, _, rfl, r, xs, m, rfl, rfl, hS, m1, m2, hl, fun rg H1 l vs s1 nl h1 lv fv nv => ?_, eB⟩
  obtain ⟨vt, vl, e⟩ : ∃ vt vl, vs = vt ++ [vl] := by
    have : vs ≠ [] := fun z => by rw [z] at lv; exact absurd lv (by simp)
    exact ⟨vs.dropLast, vs.getLast this, (List.dropLast_concat_getLast this).symm⟩
  have lvt : vt.length = xs.length - 2 := by rw [e, List.length_append] at lv; simp at lv; exact lv
  have fl := fv (xs.length - 2) vl (by rw [e, List.getElem?_append_right (by omega), lvt, Nat.sub_self]; rfl)
  have eat : atI vs (-1) = some vl := by rw [e]; exact atI_last _ _
  rcases fl with ⟨rfl, fo⟩ | ⟨a, ll, ls, rfl, ha, fo⟩
  · exact ⟨_, rfl, _, rfl, l, _, -1, _, rfl, rfl, SqL.of h1, eat, rfl, _, rfl, ifT rfl (q rg _ .non s1 (.inl ⟨rfl, .inl fo⟩))⟩
  have nn : ¬ FitR m xs (xs.length - 2) none := fun z => by cases fo.uniq z
  refine ⟨_, rfl, _, rfl, l, _, -1, _, rfl, rfl, SqL.of h1, eat, rfl, _, rfl, ifF rfl ?_⟩
  refine ⟨_, rfl, r, _, rfl, .inr (s1.tup hS), _, _, rfl, rfl, _, rfl, ifD (fun z => absurd z (by rw [List.length_map]; omega)) (fun _ => ?_)⟩
  refine ⟨_, rfl, l, rfl, ⟨_, SqL.of h1⟩, fun L nL => ?_⟩
  refine lc_list (K := K) (a := l) (xs := vs) (fun j H' => ∃ ss : List Int, H' = upd H1 L (.lst (ss.map V.int)) ∧ ss.length = j ∧ ∀ i s, ss[i]? = some s → ∃ l, FitR m xs i (some (l, s))) ⟨[], rfl, rfl, fun i s h => by cases h⟩ ?_ ?_ ?_
  · rintro j H' _ ⟨ss, rfl, _⟩
    exact SqL.of ((same_new nL) _ _ h1)
  · rintro j v H' hj ⟨ss, rfl, ls', hs⟩
    have lj := (List.getElem?_eq_some_iff.mp hj).1
    rcases fv j v hj with ⟨_, fo'⟩ | ⟨a', l', s', rfl, ha', fo'⟩
    · exact absurd (fitR_none_mono fo' (by omega)) nn
    refine ⟨a', _, rfl, SqT.of ((same_new nL) _ _ ha'), rfl, _, _, rfl, _, _, rfl, rfl, rfl, yesX ?_⟩
    refine ⟨_, rfl, _, upd_same, szl (by rw [List.length_map, ls']; omega), ss ++ [s'], ?_, ?_, fun i s hi => ?_⟩
    · rw [upd_upd, List.map_append]
      rfl
    · rw [List.length_append, ls']
      rfl
    · by_cases ei : i < ss.length
      · rw [List.getElem?_append_left ei] at hi
        exact hs i s hi
      · have := (List.getElem?_eq_some_iff.mp hi).1
        rw [List.length_append] at this
        have e' : i = ss.length := by simp at this; omega
        subst e'
        rw [List.getElem?_append_right (Nat.le_refl _), Nat.sub_self] at hi
        cases hi
        rw [ls']
        exact ⟨l', fo'⟩
  rintro H' ⟨ss, rfl, ls', hs⟩
  have sL := same_new (o := .lst (ss.map V.int)) nL
  rw [lv] at ls'
  have one_iff : ∀ i, i ≤ xs.length - 2 → (One m xs i ↔ ss[i]? = some m) := fun i hi => by
    have li : i < ss.length := by omega
    have ei := List.getElem?_eq_getElem li
    obtain ⟨l', hl'⟩ := hs i _ ei
    constructor
    · rintro ⟨l2, h2⟩
      have := hl'.uniq h2
      cases this
      exact ei
    · intro z
      rw [ei] at z
      cases z
      exact ⟨l', hl'⟩
  refine ⟨_, rfl, _, rfl, L, _, rfl, .inl (SqL.of upd_same), rfl, flatI _, _, rfl, ?_⟩
  rw [show (if false = true then !inV (V.int m) (ss.map V.int) else inV (V.int m) (ss.map V.int)) = decide (m ∈ ss) from inVI m ss]
  refine ifD (fun hm => ?_) (fun hm => ?_)
  · have li : ss.idxOf m < ss.length := List.idxOf_lt_length_of_mem hm
    have ei : ss[ss.idxOf m]? = some m := by rw [List.getElem?_eq_getElem li, List.getElem_idxOf li]
    refine ⟨_, rfl, .inl ⟨rfl, _, SqL.of upd_same⟩, _, rfl, L, _, .int m, ss.idxOf m, .int m, rfl, rfl, SqL.of upd_same, rfl, flatI _, by rw [List.getElem?_map, ei]; rfl, by rw [eqVI]; simp, fun k z' hk hz => ?_, _, _, rfl, rfl, ?_⟩
    · obtain ⟨rfl, lk⟩ := vget hz
      rw [eqVI]
      refine decide_eq_false fun z => ?_
      have h3 : ss[k]? = some m := by
        rw [List.getElem?_eq_getElem lk]
        rw [get_D (List.getElem?_eq_getElem lk)] at z
        rw [z]
      have := idx_le h3
      omega
    · refine q rg _ _ (s1.trans sL) (.inr ⟨ss.idxOf m, rfl, by omega, (one_iff _ (by omega)).mpr ei, fun i hi => ?_, nn⟩)
      intro z
      have h3 := (one_iff i (by omega)).mp z
      have := idx_le h3
      omega
  · refine q rg _ .non (s1.trans sL) (.inl ⟨rfl, .inr fun j hj z => hm (List.mem_of_getElem? ((one_iff j hj).mp z))⟩)
theorem ok_number_behind {CN CF : Addr} (D : Top K mg "number_behind" s_number_behind ["row", "bound"]) (h_rules_that_fit : Has P w K mg base (L2.CX P w) 8 "rules_that_fit" ["row", "bound", "many"] (sp3 (pRules K CN))) (h_next_of : Has P w K mg base (L2.CX P w) 4 "next_of" ["rule", "number"] (sp2 (pNextOf K CN))) (z_len : mg "len" = none)
    (x_NoFit : PySem.W.excIn K CF [.type "ValueError", .type "Exception", .type "BaseException", .type "object"] "ValueError.__new__" = true) (g_NoFit : mg "NoFit" = some (.ref CF)) (k_NoFit : PySem.W.keepIn K (.ref CF) = true) (e_NoFit : PySem.W.subIn K (.ref CF) (.type "BaseException") = some true) (y_NoFit : PySem.W.typeIn K (.ref CF) = some (.type "type")) :
    Has P w K mg base (L2.CX P w) 9 "number_behind" ["row", "bound"] (sp2 (pBehind K CN CF)) := by
  refine D.ok2X sc_number_behind (fun f cdv A outer s H v1 v2 Q E hr h => ?_)
  obtain ⟨r, xs, m, rfl, rfl, hS, m1, m2, x2, hl, q, qn, eB⟩ := h
  refine ⟨_, (pss_cons (ps_set (i := 2) sc_number_behind.nd rfl (.inl rfl) (pe_own h_rules_that_fit (hr.mono (by decide)) (passes_call (takes_of rfl rfl rfl rfl) (fun _ _ _ _ z => z)) (pa_cons (pv 0) (pa_cons (pv 1) (pa_cons pe_int pa_nil)))))
 (pss_cons (ps_if (pt_cmpR op_eq (pe_callB (id := "len") call_len_seq (by rfl) z_len (by decide +kernel) (pa_cons (pv 2) pa_nil)) pe_int (nomark _)) (pss_one (ps_raise rfl (takes_of rfl rfl rfl rfl) (pmk_own PySem.F.excBase_ValueError x_NoFit g_NoFit k_NoFit (raises_own e_NoFit y_NoFit) (by rfl)))) pss_nil)
 (pss_cons (ps_if (pt_cmpR op_lt (pe_callB (id := "len") call_len_seq (by rfl) z_len (by decide +kernel) (pa_cons (pv 0) pa_nil)) pe_int (nomark _)) (pss_one (ps_ret pe_non)) pss_nil)
 (pss_cons (ps_setLc (i := 3) (own := [("rule", 4)]) (by rfl) sc_number_behind.nd rfl rfl (sw_true rfl rfl rfl (by decide +kernel)) (pi_list (pv 2)) (blkOk_by (own := [("rule", 4)]) (N := ["row", "bound", "rules", "behind", "rule"]) (sc := defScope s_number_behind) (by decide +kernel)) (fun _ _ _ _ _ => pg_name (i := 4) sc_number_behind.nd rfl (Or.inl rfl)) (fun _ _ _ _ _ => pts_nil) (fun _ _ _ _ _ => (pe_own h_next_of (hr.mono (by decide)) passL (pa_cons (pv 4) (pa_cons (pe_ix (ix_tup : IxR _ (rIxT K)) (pv 0) (pe_un un_neg pe_int) (fun _ _ => rfl)) pa_nil)))))
 (pss_one (ps_ret (pe_ifExp (pt_cmpR op_eq (pe_ix ix_list (pv 3) pe_int (fun _ _ => rfl)) (pe_ix ix_list (pv 3) (pe_un un_neg pe_int) (fun _ _ => rfl)) (nomark _)) (pe_ix ix_list (pv 3) pe_int (fun _ _ => rfl)) pe_non))))))), ?_⟩
  have m0 : 0 < m := by omega
  refine ⟨_, rfl, _, rfl, _, _, _, rfl, r, xs, m, 2, rfl, rfl, rfl, hS, m1, m2, by decide, by decide, x2, hl, fun rg H1 l ps o s1 nl h1 T fo => ?_, eB⟩
  refine ⟨_, rfl, l, _, rfl, .inl (SqL.of h1), rfl, _, rfl, ?_⟩
  rw [List.length_map, T.1]
  cases o with
  | none => exact ifI (fun _ => qn rg _ s1 fo) (fun z => absurd rfl z)
  | some p =>
    obtain ⟨l0, st⟩ := p
    have fo' := fo
    obtain ⟨s0, sd, a0, a1, _⟩ := fo'
    have sm : st ≤ m := Int.le_of_dvd m0 sd
    have d1 : 1 ≤ m / st := by
      have := Int.ediv_le_ediv s0 sm
      rw [Int.ediv_self (by omega)] at this
      exact this
    have T' : TRows H1 ps (rulesN m xs l0 st (min 2 (m / st)).toNat) := T
    have lR : (rulesR m xs 2 (some (l0, st))).length = (min 2 (m / st)).toNat := rulesN_len ..
    rw [lR]
    have lp : ps.length = (min 2 (m / st)).toNat := T.1.trans lR
    refine ifI (fun z => by omega) (fun _ => ?_)
    refine ⟨_, rfl, r, _, rfl, .inr (s1.tup hS), _, _, rfl, rfl, _, rfl, ifD (fun z => absurd z (by rw [List.length_map]; omega)) (fun _ => ?_)⟩
    refine ⟨_, rfl, l, rfl, ⟨_, SqL.of h1⟩, fun L nL => ?_⟩
    have lst := getD_rng m0 rg (xs.length - 1)
    refine lc_list (K := K) (a := l) (xs := ps.map V.ref) (fun j H' => H' = upd H1 L (.lst (((List.range j).map fun (i : Nat) => nxB m xs (l0 + (i : Int) * st)).map V.int))) rfl ?_ ?_ ?_
    · rintro j H' _ rfl
      exact SqL.of ((same_new nL) _ _ h1)
    · rintro j v H' hj rfl
      obtain ⟨p, rr, rfl, hrr, hp⟩ := T'.get hj
      have sL := same_new (o := .lst (((List.range j).map fun (i : Nat) => nxB m xs (l0 + (i : Int) * st)).map V.int)) nL
      have lj : j < (min 2 (m / st)).toNat := by
        have := (List.getElem?_eq_some_iff.mp hrr).1
        rw [rulesN_len] at this
        exact this
      have err : rr = ruleOf m xs (l0 + (j : Int) * st) := by
        unfold rulesN at hrr
        rw [List.getElem?_map, List.getElem?_range lj] at hrr
        exact (Option.some.inj hrr).symm
      subst err
      have tb : 0 ≤ l0 + (j : Int) * st ∧ l0 + (j : Int) * st < m := by
        have j2 : (j : Int) < m / st := by omega
        have h2 := Int.mul_le_mul_of_nonneg_right (show (j : Int) + 1 ≤ m / st by omega) (show 0 ≤ st by omega)
        have h3 := Int.ediv_mul_cancel sd
        have h4 : ((j : Int) + 1) * st = (j : Int) * st + st := by grind
        have h5 := Int.mul_nonneg (show (0:Int) ≤ (j : Int) by omega) (show 0 ≤ st by omega)
        omega
      have pb := mod_bd (xs.getD 1 0 - (l0 + (j : Int) * st) * xs.getD 0 0) m0
      have eL : atI (xs.map V.int) (-1) = some (.int (xs.getD (xs.length - 1) 0)) := by
        have ne : xs ≠ [] := fun z => by rw [z] at x2; exact absurd x2 (by simp)
        have e1 : xs.getD (xs.length - 1) 0 = xs.getLast ne := by
          rw [get_D (List.getElem?_eq_getElem (show xs.length - 1 < xs.length by omega)), List.getLast_eq_getElem]
        rw [e1]
        conv => lhs; rw [← List.dropLast_concat_getLast ne]
        rw [List.map_append]
        exact atI_last _ _
      refine ⟨rfl, yesX ?_⟩
      refine ⟨_, rfl, _, rfl, _, rfl, r, _, -1, _, rfl, rfl, (s1.trans sL).tup hS, eL, _, _, rfl, p, l0 + (j : Int) * st, plusOf m xs (l0 + (j : Int) * st), m, xs.getD (xs.length - 1) 0, rfl, rfl, SqT.of (sL _ _ hp), ⟨m1, m2, tb.1, tb.2, pb.1, pb.2⟩, fun _ _ => ?_, fun z => absurd lst z⟩
      refine ⟨_, upd_same, szl (by rw [List.length_map, List.length_map, List.length_range]; omega), ?_⟩
      rw [upd_upd, List.range_succ, List.map_append, List.map_append]
      rfl
    · rintro H' rfl
      rw [List.length_map, lp]
      have sL := same_new (o := .lst (((List.range (min 2 (m / st)).toNat).map fun (i : Nat) => nxB m xs (l0 + (i : Int) * st)).map V.int)) nL
      have hL : (upd H1 L (.lst (((List.range (min 2 (m / st)).toNat).map fun (i : Nat) => nxB m xs (l0 + (i : Int) * st)).map V.int))) L = some (.lst (((List.range (min 2 (m / st)).toNat).map fun (i : Nat) => nxB m xs (l0 + (i : Int) * st)).map V.int)) := upd_same
      have sA := s1.trans sL
      generalize upd H1 L (.lst (((List.range (min 2 (m / st)).toNat).map fun (i : Nat) => nxB m xs (l0 + (i : Int) * st)).map V.int)) = H2 at sA hL
      have n0 : nxB m xs (l0 + ((0 : Nat) : Int) * st) = nxB m xs l0 := by rw [show l0 + ((0 : Nat) : Int) * st = l0 by simp]
      have n1 : nxB m xs (l0 + ((1 : Nat) : Int) * st) = nxB m xs (l0 + st) := by rw [show l0 + ((1 : Nat) : Int) * st = l0 + st by simp]
      obtain ⟨z, e1, e2, e3⟩ : ∃ z, atI (((List.range (min 2 (m / st)).toNat).map fun (i : Nat) => nxB m xs (l0 + (i : Int) * st)).map V.int) (-1) = some (.int z) ∧ z = nxB m xs (l0 + st) ∧ atI (((List.range (min 2 (m / st)).toNat).map fun (i : Nat) => nxB m xs (l0 + (i : Int) * st)).map V.int) 0 = some (.int (nxB m xs l0)) := by
        by_cases two : 2 ≤ m / st
        · have e2 : (min 2 (m / st)).toNat = 2 := by omega
          refine ⟨nxB m xs (l0 + st), ?_, rfl, ?_⟩
          · rw [e2, ← n1]
            exact atI_last [V.int (nxB m xs (l0 + ((0 : Nat) : Int) * st))] _
          · rw [e2, ← n0]
            exact atI_nat (j := 0) rfl
        · have e1 : (min 2 (m / st)).toNat = 1 := by omega
          have es : st = m := by
            have h3 := Int.ediv_mul_cancel sd
            rw [show m / st = 1 by omega, Int.one_mul] at h3
            exact h3
          refine ⟨nxB m xs l0, ?_, ?_, ?_⟩
          · rw [e1, ← n0]
            exact atI_last [] _
          · rw [es, nxB_m]
          · rw [e1, ← n0]
            exact atI_nat (j := 0) rfl
      · subst e2
        refine ⟨_, rfl, L, _, 0, _, rfl, rfl, SqL.of hL, e3, _, rfl, _, rfl, L, _, -1, _, rfl, rfl, SqL.of hL, e1, rfl, _, rfl, ifI (fun e => ?_) (fun e => ?_)⟩
        · refine ⟨_, rfl, L, _, 0, _, rfl, rfl, SqL.of hL, e3, ?_⟩
          have := q rg H2 l0 st sA fo
          unfold behV at this
          rw [if_pos e] at this
          exact this
        · have := q rg H2 l0 st sA fo
          unfold behV at this
          rw [if_neg e] at this
          exact this
end
end Tw


namespace Tw
open PySem PySem.Spec PyProof.Rows L2
abbrev s_walked_on : Stmt := topS 36
theorem sc_walked_on : FnScope ["rule", "start", "places", "number"] ["rule", "start", "places"] (defScope s_walked_on) := ⟨rfl, rfl, rfl, by decide +kernel, rfl, by decide +kernel, by decide +kernel⟩
section
variable {P : Program} {w : World} {K : PySem.W.Frag} {mg : Str → Option Value} {base : Heap}
theorem ok_walked_on {CN : Addr} (D : Top K mg "walked_on" s_walked_on ["rule", "start", "places"]) (h_next_of : Has P w K mg base (L2.CX P w) 4 "next_of" ["rule", "number"] (sp2 (pNextOf K CN))) (z_len : mg "len" = none) :
    Has P w K mg base CX0 5 "walked_on" ["rule", "start", "places"] (sp3 (pWalk K)) := by
  refine D.ok3 sc_walked_on (fun f cdv A outer s H v1 v2 v3 Q E hr h => ?_)
  obtain ⟨r, t, p, m, s0, l, ws0, rfl, rfl, rfl, hr1, R, mM, s00, s01, hl, nd0, rg0, q⟩ := h
  refine ⟨_, (pss_cons (ps_set (i := 3) sc_walked_on.nd rfl (.inl rfl) (pv 1))
 (pss_cons (ps_while PassesOwn.never (pt_cmp (pc_dnotin (hu_of hr) (pv 3) (pv 2))) (pss_cons (ps_dput (hu_of hr) (pv 2) (pv 3) (pe_callB (id := "len") call_lenD (by rfl) z_len (by decide +kernel) (pa_cons (pv 2) pa_nil)) rfl)
 (pss_one (ps_set (i := 3) sc_walked_on.nd rfl (.inl rfl) (pe_own h_next_of (hr.mono (by decide)) passL (pa_cons (pv 0) (pa_cons (pv 3) pa_nil)))))))
 (pss_one (ps_ret (pv 3))))), ?_⟩
  have m0 : 0 < m := by have := R.b1; omega
  have wl0 := int_len nd0 rg0
  refine ⟨_, rfl, ?_⟩
  refine ⟨fun k σ H' => ∃ (ws : List Int) (x : Int), σ = [some (.ref r), some (.int s0), some (.ref l), some (.int x)] ∧ H' = upd H l (.dK (enumD 0 ws)) ∧ ws.Nodup ∧ Rng m ws ∧ 0 ≤ x ∧ x < m ∧ k + ws.length = m.toNat + 1 ∧
    wk (stp t p m) k ws x = wk (stp t p m) (m.toNat + 1 - ws0.length) ws0 s0, ⟨m.toNat + 1 - ws0.length, ws0, s0, rfl, (upd_self hl).symm, nd0, rg0, s00, s01, by omega, rfl⟩, ?_⟩
  rintro k σ H' ⟨ws, x, rfl, rfl, nd, rg, x0, x1, hk, hw⟩
  have wl := int_len nd rg
  have wl2 : (ws.length : Int) ≤ 1000000 := by omega
  refine ⟨_, rfl, _, rfl, l, _, rfl, DGet.k (k := Sum.inl x) upd_same, _, rfl, ?_⟩
  by_cases hx : x ∈ ws
  · rw [enumD_some 0 hx]
    refine ifF rfl ?_
    rw [wk_in hx] at hw
    refine ⟨_, rfl, ?_⟩
    rw [← hw] at q
    exact q
  · rw [enumD_none 0 hx]
    refine ifT rfl ?_
    obtain ⟨k, rfl⟩ : ∃ j, k = j + 1 := ⟨k - 1, by
      have := int_len (nodup_snoc nd hx) (rng_snoc rg ⟨x0, x1⟩)
      rw [List.length_append] at this
      have h1 : ([x] : List Int).length = 1 := rfl
      omega⟩
    rw [wk_out hx] at hw
    refine ⟨fun σ' H' => ∃ (ws : List Int) (x : Int), σ' = [some (.ref r), some (.int s0), some (.ref l), some (.int x)] ∧ H' = upd H l (.dK (enumD 0 ws)) ∧ ws.Nodup ∧ Rng m ws ∧ 0 ≤ x ∧ x < m ∧ k + ws.length = m.toNat + 1 ∧
      wk (stp t p m) k ws x = wk (stp t p m) (m.toNat + 1 - ws0.length) ws0 s0, fun σ' H' hN => ⟨k, Nat.lt_succ_self k, hN⟩, ?_⟩
    refine ⟨_, rfl, l, _, rfl, upd_same, _, rfl, _, rfl, l, _, rfl, DPut.k (k := Sum.inl x) upd_same (szM (by rw [enumD_len]; omega)), ?_⟩
    have e1 : upd (upd H l (.dK (enumD 0 ws))) l (.dK (putK (enumD 0 ws) (Sum.inl x) (.int ((enumD 0 ws).length : Int)))) = upd H l (.dK (enumD 0 (ws ++ [x]))) := by
      rw [upd_upd, putK_new _ (enumD_none 0 hx), enumD_snoc, enumD_len, Nat.zero_add]
    rw [e1]
    have hr2 : SqT K (upd H l (.dK (enumD 0 (ws ++ [x])))) r [.int t, .int p, .int m] := sqT_upd hr1 hl (fun ys z => by cases z) (fun ob v z => by cases z)
    have sr := stp_rng (t := t) (p := p) m0 x
    refine ⟨_, rfl, _, rfl, _, _, rfl, r, t, p, m, x, rfl, rfl, hr2, R, fun _ _ => ?_, fun z => absurd ⟨x0, x1⟩ z⟩
    exact ⟨ws ++ [x], stp t p m x, rfl, rfl, nodup_snoc nd hx, rng_snoc rg ⟨x0, x1⟩, sr.1, sr.2, by rw [List.length_append]; show k + (ws.length + 1) = _; omega, hw⟩
end
end Tw


namespace Tw
open PySem PySem.Spec PyProof.Rows L2
abbrev s_round_from : Stmt := topS 37
theorem sc_round_from : FnScope ["rule", "start", "places", "again"] ["rule", "start"] (defScope s_round_from) := ⟨rfl, rfl, rfl, by decide +kernel, rfl, by decide +kernel, by decide +kernel⟩
section
variable {P : Program} {w : World} {K : PySem.W.Frag} {mg : Str → Option Value} {base : Heap}
theorem ok_round_from {CN : Addr} (D : Top K mg "round_from" s_round_from ["rule", "start"]) (h_check_number : Has P w K mg base (L2.CX P w) 3 "check_number" ["number", "bound"] (sp2 (pCheck CN))) (h_walked_on : Has P w K mg base CX0 5 "walked_on" ["rule", "start", "places"] (sp3 (pWalk K))) (z_len : mg "len" = none) :
    Has P w K mg base (L2.CX P w) 6 "round_from" ["rule", "start"] (sp2 (pRound K CN)) := by
  refine D.ok2X sc_round_from (fun f cdv A outer s H v1 v2 Q E hr h => ?_)
  obtain ⟨r, t, p, m, s0, rfl, rfl, hr1, R, mM, q, e⟩ := h
  refine ⟨_, (pss_cons (ps_expr (pe_own h_check_number (hr.mono (by decide)) (passes_call (takes_of rfl rfl rfl rfl) (fun _ _ _ _ z => z)) (pa_cons (pv 1) (pa_cons (pe_ix ix_tup (pv 0) pe_int (fun _ _ => rfl)) pa_nil))))
 (pss_cons (ps_set (i := 2) sc_round_from.nd rfl (.inl rfl) pe_dnewK)
 (pss_cons (ps_set (i := 3) sc_round_from.nd rfl (.inl rfl) (pe_own h_walked_on (hr.mono (by decide)) pass0 (pa_cons (pv 0) (pa_cons (pv 1) (pa_cons (pv 2) pa_nil)))))
 (pss_one (ps_ret (pe_tup (pa_cons (pe_dget (hu_of hr) (pv 2) (pv 3) (fun _ _ => rfl)) (pa_cons (pe_op op_sub (pe_callB (id := "len") call_lenD (by rfl) z_len (by decide +kernel) (pa_cons (pv 2) pa_nil)) (pe_dget (hu_of hr) (pv 2) (pv 3) (fun _ _ => rfl))) pa_nil)))))))), ?_⟩
  have m0 : 0 < m := by have := R.b1; omega
  refine ⟨_, rfl, _, rfl, r, _, 2, .int m, rfl, rfl, hr1, rfl, _, _, rfl, s0, m, rfl, rfl, fun n0 n1 => ?_, e⟩
  intro l nl
  have s1 := same_new (o := .dK []) nl
  refine ⟨_, rfl, _, rfl, _, rfl, _, _, _, rfl, r, t, p, m, s0, l, [], rfl, rfl, rfl, s1.tup hr1, R, mM, n0, n1, upd_same, List.nodup_nil, (fun x hx => by cases hx), ?_⟩
  have W := wk_good (t := t) (p := p) m0 (m.toNat + 1) [] s0 List.nodup_nil (fun x hx => by cases hx) ⟨n0, n1⟩ (by simp)
  rw [upd_upd]
  have ew : wk (stp t p m) (m.toNat + 1 - ([] : List Int).length) [] s0 = rndW t p m s0 := rfl
  rw [ew]
  have hv : valV (enumD 0 (rndW t p m s0).1) (Sum.inl (rndW t p m s0).2) = some (V.int (rndT t p m s0)) := by
    have W2 : (rndW t p m s0).2 ∈ (rndW t p m s0).1 := W.2.2
    rw [enumD_some 0 W2, Nat.zero_add]
    rfl
  have hg := DGet.k (H := upd H l (.dK (enumD 0 (rndW t p m s0).1))) (a := l) (k := Sum.inl (rndW t p m s0).2) upd_same
  rw [hv] at hg
  refine ⟨_, rfl, _, rfl, l, _, rfl, hg, ?_⟩
  refine ⟨_, rfl, l, _, rfl, upd_same, _, rfl, _, rfl, l, _, rfl, hg, _, _, rfl, rfl, by show 2 ≤ sizeLine; decide, fun u nu => ?_⟩
  have s2 : Same H (upd H l (.dK (enumD 0 (rndW t p m s0).1))) := same_new nl
  refine q n0 n1 _ u (s2.trans (same_new nu)) (s2.free nu) ?_
  rw [upd_same, enumD_len]
  rfl
end
end Tw


namespace Tw
open PySem PySem.Spec PyProof.Rows L2
abbrev s_all_rounds : Stmt := topS 38
theorem sc_all_rounds : FnScope ["rule", "places", "rounds", "start", "begun", "again", "length"] ["rule"] (defScope s_all_rounds) := ⟨rfl, rfl, rfl, by decide +kernel, rfl, by decide +kernel, by decide +kernel⟩
section
variable {P : Program} {w : World} {K : PySem.W.Frag} {mg : Str → Option Value} {base : Heap}
theorem ok_all_rounds (D : Top K mg "all_rounds" s_all_rounds ["rule"]) (h_walked_on : Has P w K mg base CX0 5 "walked_on" ["rule", "start", "places"] (sp3 (pWalk K)))
    (z_len : mg "len" = none) (z_range : mg "range" = none) (z_tuple : mg "tuple" = none) (z_sorted : mg "sorted" = none) : Has P w K mg base CX0 6 "all_rounds" ["rule"] (sp1 (pAllR K)) := by
  refine D.ok1 sc_all_rounds (fun f cdv A outer s H v1 Q E hr h => ?_)
  obtain ⟨r, t, p, m, rfl, hr1, R, mM, q⟩ := h
  refine ⟨_, (pss_cons (ps_set (i := 1) sc_all_rounds.nd rfl (.inl rfl) pe_dnewK)
 (pss_cons (ps_set (i := 2) sc_all_rounds.nd rfl (.inl rfl) pe_dnewK)
 (pss_cons (ps_for PassesOwn.never rfl (pi_range1 (by rfl) z_range (pa_cons (pe_ix ix_tup (pv 0) pe_int (fun _ _ => rfl)) pa_nil)) (pg_name (i := 3) sc_all_rounds.nd rfl (.inl rfl)) (pss_cons (ps_set (i := 4) sc_all_rounds.nd rfl (.inl rfl) (pe_callB (id := "len") call_lenD (by rfl) z_len (by decide +kernel) (pa_cons (pv 1) pa_nil)))
 (pss_cons (ps_set (i := 5) sc_all_rounds.nd rfl (.inl rfl) (pe_own h_walked_on (hr.mono (by decide)) pass0 (pa_cons (pv 0) (pa_cons (pv 3) (pa_cons (pv 1) pa_nil)))))
 (pss_one (ps_if (pt_cmpR op_ge (pe_dget (hu_of hr) (pv 1) (pv 5) (fun _ _ => rfl)) (pv 4) (nomark _)) (pss_cons (ps_set (i := 6) sc_all_rounds.nd rfl (.inl rfl) (pe_op op_sub (pe_callB (id := "len") call_lenD (by rfl) z_len (by decide +kernel) (pa_cons (pv 1) pa_nil)) (pe_dget (hu_of hr) (pv 1) (pv 5) (fun _ _ => rfl))))
 (pss_one (ps_dput (hu_of hr) (pv 2) (pv 6) (pe_op op_add (pe_dget2 (hu_of hr) (pv 2) (pv 6) pe_int ⟨rfl, rfl, rfl, rfl⟩) pe_int) rfl))) pss_nil)))))
 (pss_one (ps_ret (pe_callTy call_tuple_of (by rfl) z_tuple (by decide +kernel) (pa_cons (pe_callB (id := "sorted") (cr_srtItems rfl) (by rfl) z_sorted (by decide +kernel) (pa_cons (pe_bm0 PySem.F.plainAttrs_dict PySem.F.slot_dict_items PySem.F.type_dict_items mt_itemsK (pv 2)) pa_nil)) pa_nil))))))), ?_⟩
  have m0 : 0 < m := by have := R.b1; omega
  intro lp nlp
  have s1 := same_new (o := .dK []) nlp
  intro lr nlr
  have s2 := same_new (o := .dK []) nlr
  have nlr' : H lr = none := s1.free nlr
  have ne : lp ≠ lr := ne_of_none (upd_same (H := H)) nlr
  have S2 := s1.trans s2
  refine ⟨_, rfl, r, _, 2, .int m, rfl, rfl, S2.tup hr1, rfl, m, rfl, by omega, by omega, for_range (lo := 0) (n := m.toNat) (fun i σ H' => ∃ (ws : List Int) (ks : List Nat) (y3 y4 y5 y6 : Option V), σ = [some (.ref r), some (.ref lp), some (.ref lr), y3, y4, y5, y6] ∧ Same H H' ∧ H' lp = some (.dK (enumD 0 ws)) ∧ H' lr = some (.dK (dInts (rdD ks (Cws (stp t p m) ws)))) ∧
    ws.Nodup ∧ Rng m ws ∧ Fcl (stp t p m) ws ∧ (∀ x : Int, 0 ≤ x → x < i → x ∈ ws) ∧ Cnt (stp t p m) ws ks ∧ ks.length ≤ i) ⟨[], [], none, none, none, none, rfl, S2, ?_, upd_same, List.nodup_nil, (fun x hx => by cases hx), (fun x hx => by cases hx), (fun x a b => by omega), cnt_nil _, Nat.le_refl 0⟩ ?_ ?_⟩
  · rw [upd_ne ne, upd_same]
    rfl
  · rintro i σ H1 hi ⟨ws, ks, y3, y4, y5, y6, rfl, sm, hlp, hlr, nd, rg, fc, cov, C, kl⟩
    have wl := int_len nd rg
    refine ⟨_, rfl, lp, _, rfl, hlp, ?_⟩
    refine ⟨_, rfl, _, rfl, _, rfl, _, _, _, rfl, r, t, p, m, 0 + i, lp, ws, rfl, rfl, rfl, sm.tup hr1, R, by omega, by omega, by omega, hlp, nd, rg, ?_⟩
    have W := wk_good (t := t) (p := p) m0 (m.toNat + 1 - ws.length) ws (0 + i) nd rg ⟨by omega, by omega⟩ (by omega)
    obtain ⟨n, hn, ew⟩ := wk_form (stp t p m) (m.toNat + 1 - ws.length) ws (0 + i)
    have ew1 : (wk (stp t p m) (m.toNat + 1 - ws.length) ws (0 + i)).1 = ws ++ orb (stp t p m) n (0 + i) := by rw [ew]
    have ew2 : (wk (stp t p m) (m.toNat + 1 - ws.length) ws (0 + i)).2 = itr (stp t p m) n (0 + i) := by rw [ew]
    rw [ew1, ew2] at W ⊢
    clear ew ew1 ew2
    obtain ⟨nd2, rg2, hy⟩ := W
    generalize hx : (0 + i : Int) = x at *
    have fc2 := fcl_walk fc hy
    have cov2 : ∀ z : Int, 0 ≤ z → z < i + 1 → z ∈ ws ++ orb (stp t p m) n x := by
      intro z z0 z1
      by_cases c : z < i
      · exact List.mem_append_left _ (cov z z0 c)
      · obtain rfl : z = x := by omega
        cases n with
        | zero => exact hy
        | succ n => exact List.mem_append_right _ (orb_mem.mpr ⟨0, by omega, rfl⟩)
    have sm2 : Same H (upd H1 lp (.dK (enumD 0 (ws ++ orb (stp t p m) n x)))) := same_mut sm nlp
    have hlr2 : (upd H1 lp (.dK (enumD 0 (ws ++ orb (stp t p m) n x)))) lr = some (.dK (dInts (rdD ks (Cws (stp t p m) ws)))) := by
      rw [upd_ne (Ne.symm ne)]
      exact hlr
    have hg := DGet.k (H := upd H1 lp (.dK (enumD 0 (ws ++ orb (stp t p m) n x)))) (a := lp) (k := Sum.inl (itr (stp t p m) n x)) upd_same
    rw [enumD_some 0 hy, Nat.zero_add] at hg
    refine ⟨_, rfl, _, rfl, lp, _, rfl, hg, _, rfl, ?_⟩
    by_cases c : itr (stp t p m) n x ∈ ws
    · have hl : List.idxOf (itr (stp t p m) n x) (ws ++ orb (stp t p m) n x) < ws.length := by
        rw [List.idxOf_append, if_pos c]
        exact List.idxOf_lt_length_of_mem c
      refine ⟨_, _, rfl, rfl, _, rfl, ifF (decide_eq_false (by rw [enumD_len]; omega)) ?_⟩
      have eo := fun L => pcnt_old nd2 fc c L
      refine ⟨_, ks, _, _, _, _, rfl, sm2, upd_same, ?_, nd2, rg2, fc2, cov2, C.old eo, by omega⟩
      rw [hlr2, cws_old eo]
    · have ho : itr (stp t p m) n x ∈ orb (stp t p m) n x := (List.mem_append.mp hy).resolve_left c
      obtain ⟨jn, ej⟩ := orb_idx ho
      have hl : List.idxOf (itr (stp t p m) n x) (ws ++ orb (stp t p m) n x) = List.idxOf (itr (stp t p m) n x) (orb (stp t p m) n x) + ws.length := by
        rw [List.idxOf_append, if_neg c]
      rw [hl] at hg
      generalize List.idxOf (itr (stp t p m) n x) (orb (stp t p m) n x) = j at *
      rw [hl]
      refine ⟨_, _, rfl, rfl, _, rfl, ifT (decide_eq_true (by rw [enumD_len]; omega)) ?_⟩
      have en := fun L => pcnt_new nd2 jn ej.symm L
      refine ⟨_, rfl, lp, _, rfl, upd_same, _, rfl, _, rfl, lp, _, rfl, hg, _, _, rfl, rfl, ?_⟩
      have el : ((enumD 0 (ws ++ orb (stp t p m) n x)).length : Int) - ((j + ws.length : Nat) : Int) = ((n - j : Nat) : Int) := by
        rw [enumD_len, List.length_append, orb_len]
        omega
      dsimp only
      rw [el]
      have c0 : 0 < n - j := by omega
      refine ⟨_, rfl, lr, rfl, .inl ⟨_, .inl hlr2⟩, _, rfl, _, DGet.k (k := Sum.inl ((n - j : Nat) : Int)) hlr2, ?_⟩
      by_cases hk : n - j ∈ ks
      · rw [rdD_in hk]
        refine ⟨_, _, rfl, rfl, _, rfl, _, rfl, lr, _, rfl, DPut.k (k := Sum.inl ((n - j : Nat) : Int)) hlr2 (szM (by rw [rdD_len]; omega)), ?_⟩
        refine ⟨_, ks, _, _, _, _, rfl, same_mut sm2 nlr', ?_, ?_, nd2, rg2, fc2, cov2, C.again hk en, by omega⟩
        · rw [upd_ne ne, upd_same]
        · rw [upd_same, rdD_put hk, cws_new c0 en]
      · rw [rdD_out hk]
        refine ⟨_, _, rfl, rfl, _, rfl, _, rfl, lr, _, rfl, DPut.k (k := Sum.inl ((n - j : Nat) : Int)) hlr2 (szM (by rw [rdD_len]; omega)), ?_⟩
        refine ⟨_, ks ++ [n - j], _, _, _, _, rfl, same_mut sm2 nlr', ?_, ?_, nd2, rg2, fc2, cov2, C.more c0 hk en, by rw [List.length_append]; show ks.length + 1 ≤ i + 1; omega⟩
        · rw [upd_ne ne, upd_same]
        · rw [upd_same, rdD_add hk, cws_new c0 en, cws_none C hk]
  · rintro σ H1 ⟨ws, ks, y3, y4, y5, y6, rfl, sm, hlp, hlr, nd, rg, fc, cov, C, kl⟩
    have all := fun L => nper_of (f := stp t p m) nd rg (fun x x0 x1 _ => cov x x0 (by omega)) L
    refine ⟨_, rfl, .inr (.inr (.inl ⟨rfl, .inl ⟨_, hlr⟩⟩)), lr, _, rfl, rfl, hlr, fun pv npv => ?_⟩
    have s3 := same_new (o := L2.DX.itemsO pv lr) npv
    refine ⟨pv, lr, rdD ks (Cws (stp t p m) ws), rfl, upd_same, s3 _ _ hlr, fun H2 l ps s4 nl pm up hl hp => ?_⟩
    refine ⟨l, _, rfl, .inl ⟨SqL.of hl, fun u nu => ?_⟩⟩
    have s5 := same_new (o := .tup (ps.map fun z => V.ref z.1)) nu
    have S := sm.trans (s3.trans s4)
    exact q _ u ps (S.trans s5) (S.free nu) ⟨upd_same, fun z hz => s5 _ _ (hp z hz)⟩ (C.rds all pm up)
end
end Tw


namespace Tw
open PySem PySem.Spec PyProof.Rows L2
abbrev s_has_each_prime_of : Stmt := topS 40
theorem sc_has_each_prime_of : FnScope ["bound", "number", "left", "shared"] ["bound", "number"] (defScope s_has_each_prime_of) := ⟨rfl, rfl, rfl, by decide +kernel, rfl, by decide +kernel, by decide +kernel⟩
abbrev s_is_one_round : Stmt := topS 39
theorem sc_is_one_round : FnScope ["rule", "times", "plus", "bound"] ["rule"] (defScope s_is_one_round) := ⟨rfl, rfl, rfl, by decide +kernel, rfl, by decide +kernel, by decide +kernel⟩
section
variable {P : Program} {w : World} {K : PySem.W.Frag} {mg : Str → Option Value} {base : Heap}
theorem ok_has_each (D : Top K mg "has_each_prime_of" s_has_each_prime_of ["bound", "number"]) (h_common_divisor : Has P w K mg base CX0 1 "common_divisor" ["one", "other"] (sp2 pGcd)) : Has P w K mg base CX0 2 "has_each_prime_of" ["bound", "number"] (sp2 pEach) := by
  refine D.ok2 sc_has_each_prime_of (fun f cdv A outer s H v1 v2 Q E hr h => ?_)
  obtain ⟨m, x, rfl, rfl, m0, m1, x0, q⟩ := h
  refine ⟨_, (pss_cons (ps_set (i := 2) sc_has_each_prime_of.nd rfl (.inl rfl) (pv 0))
 (pss_cons (ps_set (i := 3) sc_has_each_prime_of.nd rfl (.inl rfl) (pe_own h_common_divisor (hr.mono (by decide)) pass0 (pa_cons (pv 2) (pa_cons (pv 1) pa_nil))))
 (pss_cons (ps_while PassesOwn.never (pt_cmpR op_ne (pv 3) pe_int (nomark _)) (pss_cons (ps_set (i := 2) sc_has_each_prime_of.nd rfl (.inl rfl) (pe_op op_fdivB (pv 2) (pv 3)))
 (pss_one (ps_set (i := 3) sc_has_each_prime_of.nd rfl (.inl rfl) (pe_own h_common_divisor (hr.mono (by decide)) pass0 (pa_cons (pv 2) (pa_cons (pv 1) pa_nil)))))))
 (pss_one (ps_ret (pe_cmpR op_eq (pv 2) pe_int (nomark _))))))), ?_⟩
  refine ⟨_, rfl, _, rfl, _, rfl, _, _, rfl, m, x, rfl, rfl, by omega, x0, ?_⟩
  refine ⟨fun k σ H' => ∃ l : Int, σ = [some (.int m), some (.int x), some (.int l), some (.int (Int.gcd l x : Nat))] ∧ H' = H ∧ 0 < l ∧ l ≤ m ∧ l ∣ m ∧ l.toNat = k ∧ (∀ q, Prm q → q ∣ m → q ∣ l ∨ q ∣ x), ⟨m.toNat, m, rfl, rfl, m0, Int.le_refl _, ⟨1, by omega⟩, rfl, fun q _ h => .inl h⟩, ?_⟩
  rintro k σ H' ⟨l, rfl, rfl, l0, lm, ld, hk, hp⟩
  have g1 : ((Int.gcd l x : Nat) : Int) ∣ l := Int.gcd_dvd_left ..
  have g2 : ((Int.gcd l x : Nat) : Int) ∣ x := Int.gcd_dvd_right ..
  have g0 : 0 < ((Int.gcd l x : Nat) : Int) := by
    have : Int.gcd l x ≠ 0 := fun z => by
      have := (Int.gcd_eq_zero_iff.mp z).1
      omega
    omega
  have gl := Int.le_of_dvd l0 g1
  refine ⟨_, rfl, rfl, _, rfl, ifNI (fun ne => ?_) (fun e => ?_)⟩
  · have ed := Int.mul_ediv_cancel' g1
    have l20 : 0 < l / (Int.gcd l x : Nat) := Int.ediv_pos_of_pos_of_dvd l0 (by omega) g1
    have l2l : l / (Int.gcd l x : Nat) < l := by
      have h3 := Int.mul_le_mul_of_nonneg_right (show (2 : Int) ≤ (Int.gcd l x : Nat) by omega) (Int.le_of_lt l20)
      omega
    refine ⟨fun σ' H1 => ∃ k', k' < k ∧ ∃ l : Int, σ' = [some (.int m), some (.int x), some (.int l), some (.int (Int.gcd l x : Nat))] ∧ H1 = H' ∧ 0 < l ∧ l ≤ m ∧ l ∣ m ∧ l.toNat = k' ∧ (∀ q, Prm q → q ∣ m → q ∣ l ∨ q ∣ x), fun _ _ z => z, ?_⟩
    refine ⟨_, rfl, _, rfl, _, _, rfl, rfl, ⟨g0, by omega⟩, ?_⟩
    refine ⟨_, rfl, _, rfl, _, _, rfl, _, x, rfl, rfl, by omega, x0, ?_⟩
    refine ⟨(l / (Int.gcd l x : Nat)).toNat, by omega, l / (Int.gcd l x : Nat), rfl, rfl, l20, by omega, Int.dvd_trans ⟨((Int.gcd l x : Nat) : Int), by rw [Int.mul_comm]; exact ed.symm⟩ ld, rfl, fun q hq hd => ?_⟩
    rcases hp q hq hd with h | h
    · rw [← ed] at h
      rcases prm_mul hq h with h | h
      · exact .inr (Int.dvd_trans h g2)
      · exact .inl h
    · exact .inr h
  · refine ⟨_, rfl, rfl, q _ ?_⟩
    have gg : Int.gcd l x = 1 := by omega
    constructor
    · intro h r hr hd
      have e1 : l = 1 := V.int.inj (of_decide_eq_true h)
      rcases hp r hr hd with h | h
      · rw [e1] at h
        have := Int.le_of_dvd (by decide) h
        have := hr.1
        omega
      · exact h
    · intro hA
      refine decide_eq_true ?_
      congr 1
      refine Classical.byContradiction fun hn => ?_
      obtain ⟨r, hr, hrl⟩ := prm_of (n := l) (by omega)
      have h2 := hA r hr (Int.dvd_trans hrl ld)
      have d := Int.dvd_coe_gcd hrl h2
      rw [gg] at d
      have := Int.le_of_dvd (by decide) d
      have := hr.1
      omega
theorem ok_is_one_round (D : Top K mg "is_one_round" s_is_one_round ["rule"]) (h_common_divisor : Has P w K mg base CX0 1 "common_divisor" ["one", "other"] (sp2 pGcd)) (h_has_each_prime_of : Has P w K mg base CX0 2 "has_each_prime_of" ["bound", "number"] (sp2 pEach)) : Has P w K mg base CX0 3 "is_one_round" ["rule"] (sp1 (pOneR K)) := by
  refine D.ok1 sc_is_one_round (fun f cdv A outer s H v1 Q E hr h => ?_)
  obtain ⟨r, t, p, m, rfl, h1, R, q⟩ := h
  refine ⟨_, (pss_cons (ps_asg (pv 0) (pg_tup rfl (pgs_cons (pg_name (i := 1) sc_is_one_round.nd rfl (.inl rfl)) (pgs_cons (pg_name (i := 2) sc_is_one_round.nd rfl (.inl rfl)) (pgs_cons (pg_name (i := 3) sc_is_one_round.nd rfl (.inl rfl)) pgs_nil)))))
 (pss_cons (ps_if (pt_cmpR op_ne (pe_own h_common_divisor (hr.mono (by decide)) pass0 (pa_cons (pv 2) (pa_cons (pv 3) pa_nil))) pe_int (nomark _)) (pss_one (ps_ret pe_bl)) pss_nil)
 (pss_cons (ps_if (PW.pt (pw_and (pt_cmpR op_eq (pe_op op_mod (pv 3) pe_int) pe_int (nomark _)) (pw_and1 (pt_cmpR op_ne (pe_op op_mod (pv 1) pe_int) pe_int (nomark _))))) (pss_one (ps_ret pe_bl)) pss_nil)
 (pss_one (ps_ret (pe_own h_has_each_prime_of (hr.mono (by decide)) pass0 (pa_cons (pv 3) (pa_cons (pe_op op_mod (pe_op op_sub (pv 1) pe_int) (pv 3)) pa_nil)))))))), ?_⟩
  have m0 : 0 < m := by have := R.b1; omega
  have p0 := R.p0
  have b2 := R.b2
  refine ⟨_, rfl, r, _, rfl, h1, rfl, _, _, rfl, _, _, rfl, _, _, rfl, rfl, ?_⟩
  refine ⟨_, rfl, _, rfl, _, _, rfl, p, m, rfl, rfl, p0, by omega, rfl, _, rfl, ifNI (fun ne => ?_) (fun e1 => ?_)⟩
  · exact q false ⟨fun h => absurd h Bool.false_ne_true, fun h => absurd (show ((Int.gcd p m : Nat) : Int) = 1 by rw [h.1]; rfl) ne⟩
  have g1 : Int.gcd p m = 1 := by omega
  have fin : (4 ∣ m → 4 ∣ t - 1) → ∀ b : Bool, (b = true ↔ AllP m ((t - 1) % m)) → (b = true ↔ ClsR t p m) := fun h4 b hb => by
    rw [hb, allP_mod]
    exact ⟨fun h => ⟨g1, h, h4⟩, fun h => h.2.1⟩
  have xr := mod_bd (t - 1) m0
  refine ⟨_, rfl, _, _, rfl, rfl, (by show (0 : Int) < 4; decide), rfl, _, rfl, ifI (fun e4 => ?_) (fun n4 => ifF rfl ?_)⟩
  · refine ⟨_, rfl, _, _, rfl, rfl, (by show (0 : Int) < 4; decide), rfl, _, rfl, ifNI (fun n1 => ?_) (fun e5 => ?_)⟩
    · refine q false ⟨fun h => absurd h Bool.false_ne_true, fun h => ?_⟩
      obtain ⟨c, hc⟩ := h.2.2 (Int.dvd_of_emod_eq_zero e4)
      omega
    · refine ⟨_, rfl, _, rfl, _, _, rfl, rfl, _, rfl, _, _, rfl, rfl, m0, _, _, rfl, m, _, rfl, rfl, m0, b2, xr.1, fun b hb => q b (fin (fun _ => ⟨t / 4, by omega⟩) b hb)⟩
  · refine ⟨_, rfl, _, rfl, _, _, rfl, rfl, _, rfl, _, _, rfl, rfl, m0, _, _, rfl, m, _, rfl, rfl, m0, b2, xr.1, fun b hb => q b (fin (fun h4 => absurd (Int.emod_eq_zero_of_dvd h4) n4) b hb)⟩
end
end Tw


namespace Tw
open PySem PySem.Spec PyProof.Rows L2
abbrev s_kinit : Stmt := inClass (topS 34) 0
theorem sc_kinit : FnScope ["self", "bound"] ["self", "bound"] (defScope s_kinit) := ⟨rfl, rfl, rfl, by decide +kernel, rfl, by decide +kernel, by decide +kernel⟩
abbrev s_row_now : Stmt := inClass (topS 34) 3
theorem sc_row_now : FnScope ["self"] ["self"] (defScope s_row_now) := ⟨rfl, rfl, rfl, by decide +kernel, rfl, by decide +kernel, by decide +kernel⟩
abbrev s_see : Stmt := inClass (topS 34) 1
theorem sc_see : FnScope ["self", "number"] ["self", "number"] (defScope s_see) := ⟨rfl, rfl, rfl, by decide +kernel, rfl, by decide +kernel, by decide +kernel⟩
abbrev s_take_back : Stmt := inClass (topS 34) 2
theorem sc_take_back : FnScope ["self"] ["self"] (defScope s_take_back) := ⟨rfl, rfl, rfl, by decide +kernel, rfl, by decide +kernel, by decide +kernel⟩
abbrev s_fit_now : Stmt := inClass (topS 34) 4
theorem sc_fit_now : FnScope ["self"] ["self"] (defScope s_fit_now) := ⟨rfl, rfl, rfl, by decide +kernel, rfl, by decide +kernel, by decide +kernel⟩
abbrev s_guess_now : Stmt := inClass (topS 34) 5
theorem sc_guess_now : FnScope ["self"] ["self"] (defScope s_guess_now) := ⟨rfl, rfl, rfl, by decide +kernel, rfl, by decide +kernel, by decide +kernel⟩
section
variable {P : Program} {w : World} {K : PySem.W.Frag} {mg : Str → Option Value} {base : Heap}
theorem ok_kinit {C f : Addr} {fd : FuncData} (F : Fun K "__init__" "KeptRow.__init__" s_kinit f fd) (T : KTx K mg C) (M : Mk K C f) (b : Binds K fd ["self", "bound"] []) : HasI P w K mg base CX0 1 C ["self", "bound"] (sp2 (pKinit C)) := by
  refine ⟨f, fd, F.ok sc_kinit (fun vs H Q E h => by obtain ⟨_, _, rfl, _⟩ := h; rfl) (fun cdv A outer s H vs Q E hr h => ?_), M, b, lk_of F⟩
  obtain ⟨v1, v2, rfl, H0, p, dx, m, rfl, rfl, s0, np, hp, q⟩ := h
  refine ⟨_, (pss_cons (ps_fld (pv 0) (pv 1) rfl)
 (pss_one (ps_fld (pv 0) (pe_lst pa_nil) rfl))), ?_⟩
  refine ⟨_, rfl, _, rfl, p, C, dx, _, rfl, hp, T.cl, T.nb, by show 0 < 1000; decide, ?_⟩
  refine ⟨by show 0 ≤ sizeLine; decide, fun l nl => ?_⟩
  have npl : p ≠ l := fun z => by rw [← z, upd_same] at nl; cases nl
  refine ⟨_, rfl, p, C, dx, _, rfl, by rw [upd_ne npl, upd_same], T.cl, T.nn, by show 1 < 1000; decide, ?_⟩
  have nl0 : H l = none := by rw [upd_ne (Ne.symm npl)] at nl; exact nl
  refine q _ l (fun b o e => ?_) (s0.free nl0) npl ⟨⟨dx, upd_same⟩, by rw [upd_ne (Ne.symm npl), upd_same]; rfl⟩
  have nbp : b ≠ p := fun z => by rw [z, np] at e; cases e
  have nbl : b ≠ l := fun z => by rw [z, s0.free nl0] at e; cases e
  rw [upd_ne nbp, upd_ne nbl, upd_ne nbp]
  exact s0 _ _ e
theorem ok_row_now {C : Addr} (D : TopM K C "row_now" "KeptRow.row_now" s_row_now ["self"]) (T : KTx K mg C) (z_tuple : mg "tuple" = none) : HasM P w K mg base CX0 1 C "row_now" ["self"] (sp1 (pRowNow C)) := by
  refine D.ok sc_row_now (fun vs H Q E h => by obtain ⟨_, rfl, _⟩ := h; rfl) (fun f cdv A outer s H vs Q E hr h => ?_)
  obtain ⟨v1, rfl, p, l, m, xs, rfl, ⟨⟨dx, hp⟩, hl⟩, q⟩ := h
  refine ⟨_, (pss_one (ps_ret (pe_callTy call_tuple_of (by rfl) z_tuple (by decide +kernel) (pa_cons (pe_fld (pv 0) rfl) pa_nil)))), ?_⟩
  refine ⟨_, rfl, p, C, dx, _, _, rfl, hp, T.cl, T.nn, kf_numbers m l, l, _, rfl, .inl ⟨SqL.of hl, fun z nz => ?_⟩⟩
  exact q _ z (same_new nz) nz upd_same
theorem ok_see {C CN CF : Addr} (D : TopM K C "see" "KeptRow.see" s_see ["self", "number"]) (T : KTx K mg C) (h_check_number : Has P w K mg base (L2.CX P w) 3 "check_number" ["number", "bound"] (sp2 (pCheck CN))) (h_times_that_fit : Has P w K mg base (L2.CX P w) 7 "times_that_fit" ["row", "bound"] (sp2 (pTimes K CN))) (h_row_now : HasM P w K mg base CX0 1 C "row_now" ["self"] (sp1 (pRowNow C)))
    (x_NoFit : PySem.W.excIn K CF [.type "ValueError", .type "Exception", .type "BaseException", .type "object"] "ValueError.__new__" = true) (g_NoFit : mg "NoFit" = some (.ref CF)) (k_NoFit : PySem.W.keepIn K (.ref CF) = true) (e_NoFit : PySem.W.subIn K (.ref CF) (.type "BaseException") = some true) (y_NoFit : PySem.W.typeIn K (.ref CF) = some (.type "type")) :
    HasM P w K mg base (L2.CX P w) 8 C "see" ["self", "number"] (sp2 (pSee C CN CF)) := by
  refine D.okX sc_see (fun vs H Q E h => by obtain ⟨_, _, rfl, _⟩ := h; rfl) (fun f cdv A outer s H vs Q E hr h => ?_)
  obtain ⟨v1, v2, rfl, p, l, m, n, xs, rfl, rfl, hk, m1, m2, hl, rg, e1, e2, q⟩ := h
  have c_KeptRow := T.cl
  obtain ⟨⟨dx, hp⟩, hL⟩ := id hk
  have npl : p ≠ l := fun z => by rw [z, hL] at hp; cases hp
  refine ⟨_, (pss_cons (ps_expr (pe_own h_check_number (hr.mono (by decide)) (passes_call (takes_of rfl rfl rfl rfl) (fun _ _ _ _ z => z)) (pa_cons (pv 1) (pa_cons (pe_fld (pv 0) rfl) pa_nil))))
 (pss_cons (ps_if (pt_cmpR op_isN (pe_own h_times_that_fit (hr.mono (by decide)) (passes_call (takes_of rfl rfl rfl rfl) (fun _ _ _ _ z => z)) (pa_cons (pe_op op_catX (pe_mth0 (pv 0) c_KeptRow h_row_now (hr.mono (by decide)) pass0) (pe_tup (pa_cons (pv 1) pa_nil))) (pa_cons (pe_fld (pv 0) rfl) pa_nil))) pe_non (nomark _)) (pss_one (ps_raise rfl (takes_of rfl rfl rfl rfl) (pmk_own PySem.F.excBase_ValueError x_NoFit g_NoFit k_NoFit (raises_own e_NoFit y_NoFit) (by rfl)))) pss_nil)
 (pss_one (ps_expr (pe_bm PySem.F.plainAttrs_list PySem.F.slot_list_append PySem.F.type_list_append mt_append (pe_fld (pv 0) rfl) (pa_cons (pv 1) pa_nil)))))), ?_⟩
  refine ⟨_, rfl, _, rfl, p, C, dx, _, _, rfl, hp, T.cl, T.nb, kf_bound m l, _, _, rfl, n, m, rfl, rfl, fun a0 a1 => ?_, e1⟩
  refine ⟨_, rfl, p, dx, _, rfl, hp, kf_no m l (by decide +kernel) (by decide +kernel), _, rfl, p, l, m, xs, rfl, hk, fun H1 q1 s1 nq1 hq1 => ?_⟩
  have hk1 := hk.same s1
  obtain ⟨⟨dx1, hp1⟩, hL1⟩ := id hk1
  refine ⟨_, rfl, by show 1 ≤ sizeLine; decide, fun t nt => ?_⟩
  have st := same_new (o := .tup [.int n]) nt
  refine ⟨q1, t, _, _, rfl, rfl, SqT.of (st _ _ hq1), SqT.of upd_same, szl (by rw [List.length_map]; show _ + 1 ≤ _; omega), fun H3 u s3 hu => ?_⟩
  have s13 := s1.trans (st.trans s3)
  have hk3 := hk.same s13
  obtain ⟨⟨dx3, hp3⟩, hL3⟩ := id hk3
  have hu : SqT K H3 u ((xs ++ [n]).map V.int) := by rw [List.map_append]; exact hu
  have rgn : Rng m (xs ++ [n]) := fun y hy => by
    rcases List.mem_append.mp hy with hy | hy
    · exact rg y hy
    · rw [List.mem_singleton.mp hy]; exact ⟨a0, a1⟩
  refine ⟨_, rfl, p, C, dx3, _, _, rfl, hp3, T.cl, T.nb, kf_bound m l, _, _, rfl, u, xs ++ [n], m, rfl, rfl, hu, m1, m2, by rw [List.length_append]; show _ + 1 ≤ _; omega, fun _ H4 v s4 fv _ => ?_, fun i bad => (bad.no rgn).elim⟩
  have s14 := s13.trans s4
  have hk4 := hk3.same s4
  rcases fv with ⟨rfl, fo⟩ | ⟨a, ll, sl, rfl, ha, fo⟩
  · exact ⟨rfl, _, rfl, ifT rfl (e2 ⟨a0, a1⟩ (fun z => z fo) _ s14)⟩
  · obtain ⟨⟨dx4, hp4⟩, hL4⟩ := id hk4
    refine ⟨rfl, _, rfl, ifF rfl ?_⟩
    refine ⟨_, rfl, p, C, dx4, _, _, rfl, hp4, T.cl, T.nn, kf_numbers m l, .inl ⟨rfl, _, SqL.of hL4⟩, _, rfl, l, _, _, rfl, rfl, hL4, szl (by rw [List.length_map]; omega), ?_⟩
    refine q ⟨a0, a1⟩ (fun z => by cases fo.uniq z) _ (fun b o nb e => by rw [upd_ne nb]; exact s14 _ _ e) ⟨⟨dx4, by rw [upd_ne npl]; exact hp4⟩, ?_⟩
    rw [upd_same, List.map_append]
    rfl
theorem ok_take_back {C CF : Addr} (D : TopM K C "take_back" "KeptRow.take_back" s_take_back ["self"]) (T : KTx K mg C) (z_len : mg "len" = none)
    (x_NoFit : PySem.W.excIn K CF [.type "ValueError", .type "Exception", .type "BaseException", .type "object"] "ValueError.__new__" = true) (g_NoFit : mg "NoFit" = some (.ref CF)) (k_NoFit : PySem.W.keepIn K (.ref CF) = true) (e_NoFit : PySem.W.subIn K (.ref CF) (.type "BaseException") = some true) (y_NoFit : PySem.W.typeIn K (.ref CF) = some (.type "type")) :
    HasM P w K mg base (L2.CX P w) 1 C "take_back" ["self"] (sp1 (pTake C CF)) := by
  refine D.okX sc_take_back (fun vs H Q E h => by obtain ⟨_, rfl, _⟩ := h; rfl) (fun f cdv A outer s H vs Q E hr h => ?_)
  obtain ⟨v1, rfl, p, l, m, xs, rfl, hk, hl, e1, q⟩ := h
  obtain ⟨⟨dx, hp⟩, hL⟩ := id hk
  have npl : p ≠ l := fun z => by rw [z, hL] at hp; cases hp
  refine ⟨_, (pss_cons (ps_if (pt_cmpR op_eq (pe_callB (id := "len") call_len_seq (by rfl) z_len (by decide +kernel) (pa_cons (pe_fld (pv 0) rfl) pa_nil)) pe_int (nomark _)) (pss_one (ps_raise rfl (takes_of rfl rfl rfl rfl) (pmk_own PySem.F.excBase_ValueError x_NoFit g_NoFit k_NoFit (raises_own e_NoFit y_NoFit) (by rfl)))) pss_nil)
 (pss_one (ps_expr (pe_bm0 PySem.F.plainAttrs_list PySem.F.slot_list_pop PySem.F.type_list_pop mt_pop (pe_fld (pv 0) rfl))))), ?_⟩
  refine ⟨_, rfl, p, C, dx, _, _, rfl, hp, T.cl, T.nn, kf_numbers m l, l, _, rfl, .inl (SqL.of hL), rfl, _, rfl, ifD (fun e => ?_) (fun e => ?_)⟩
  · have e0 := V.int.inj e
    rw [List.length_map] at e0
    exact e1 (List.eq_nil_of_length_eq_zero (by omega))
  · have ne : xs ≠ [] := fun z => e (by rw [z]; rfl)
    have hlast : (xs.map V.int)[(xs.map V.int).length - 1]? = some (V.int (xs.getLast ne)) := by
      rw [List.length_map, List.getElem?_map, ← List.getLast?_eq_getElem?, List.getLast?_eq_some_getLast ne]
      rfl
    refine ⟨_, rfl, p, C, dx, _, _, rfl, hp, T.cl, T.nn, kf_numbers m l, .inl ⟨rfl, _, SqL.of hL⟩, l, _, _, rfl, rfl, hL, hlast, ?_⟩
    refine q ne _ (fun b o nb e => by rw [upd_ne nb]; exact e) ⟨⟨dx, by rw [upd_ne npl]; exact hp⟩, ?_⟩
    rw [upd_same, List.map_dropLast]
theorem ok_fit_now {C CN : Addr} (D : TopM K C "fit_now" "KeptRow.fit_now" s_fit_now ["self"]) (T : KTx K mg C) (h_times_that_fit : Has P w K mg base (L2.CX P w) 7 "times_that_fit" ["row", "bound"] (sp2 (pTimes K CN))) (h_row_now : HasM P w K mg base CX0 1 C "row_now" ["self"] (sp1 (pRowNow C))) (z_len : mg "len" = none) :
    HasM P w K mg base (L2.CX P w) 8 C "fit_now" ["self"] (sp1 (pFitNow C)) := by
  refine D.okX sc_fit_now (fun vs H Q E h => by obtain ⟨_, rfl, _⟩ := h; rfl) (fun f cdv A outer s H vs Q E hr h => ?_)
  obtain ⟨v1, rfl, p, l, m, xs, rfl, hk, m1, m2, hl, rg, q⟩ := h
  have c_KeptRow := T.cl
  obtain ⟨⟨dx, hp⟩, hL⟩ := id hk
  refine ⟨_, (pss_cons (ps_if (pt_cmpR op_lt (pe_callB (id := "len") call_len_seq (by rfl) z_len (by decide +kernel) (pa_cons (pe_fld (pv 0) rfl) pa_nil)) pe_int (nomark _)) (pss_one (ps_ret pe_non)) pss_nil)
 (pss_one (ps_ret (pe_own h_times_that_fit (hr.mono (by decide)) (passes_call (takes_of rfl rfl rfl rfl) (fun _ _ _ _ z => z)) (pa_cons (pe_mth0 (pv 0) c_KeptRow h_row_now (hr.mono (by decide)) pass0) (pa_cons (pe_fld (pv 0) rfl) pa_nil)))))), ?_⟩
  refine ⟨_, rfl, p, C, dx, _, _, rfl, hp, T.cl, T.nn, kf_numbers m l, l, _, rfl, .inl (SqL.of hL), _, _, rfl, rfl, _, rfl, ifD (fun e => ?_) (fun e => ?_)⟩
  · rw [List.length_map] at e
    exact q H .non (fun _ _ z => z) (.inl ⟨by omega, rfl⟩) (fun _ z => by cases z)
  · rw [List.length_map] at e
    refine ⟨_, rfl, p, dx, _, rfl, hp, kf_no m l (by decide +kernel) (by decide +kernel), _, rfl, p, l, m, xs, rfl, hk, fun H1 q1 s1 nq1 hq1 => ?_⟩
    obtain ⟨⟨dx1, hp1⟩, _⟩ := hk.same s1
    refine ⟨_, rfl, p, C, dx1, _, _, rfl, hp1, T.cl, T.nb, kf_bound m l, _, _, rfl, q1, xs, m, rfl, rfl, SqT.of hq1, m1, m2, hl, fun _ H4 v s4 fv nv => ?_, fun i bad => (bad.no rg).elim⟩
    exact q _ v (s1.trans s4) (.inr ⟨by omega, fv⟩) (fun z e => s1.free (nv z e))
theorem ok_guess_now {C CN CF : Addr} (D : TopM K C "guess_now" "KeptRow.guess_now" s_guess_now ["self"]) (T : KTx K mg C) (h_number_behind : Has P w K mg base (L2.CX P w) 9 "number_behind" ["row", "bound"] (sp2 (pBehind K CN CF))) (h_row_now : HasM P w K mg base CX0 1 C "row_now" ["self"] (sp1 (pRowNow C))) (z_len : mg "len" = none) :
    HasM P w K mg base (L2.CX P w) 10 C "guess_now" ["self"] (sp1 (pGuess C)) := by
  refine D.okX sc_guess_now (fun vs H Q E h => by obtain ⟨_, rfl, _⟩ := h; rfl) (fun f cdv A outer s H vs Q E hr h => ?_)
  obtain ⟨v1, rfl, p, l, m, xs, rfl, hk, m1, m2, hl, rg, ft, q⟩ := h
  have c_KeptRow := T.cl
  obtain ⟨⟨dx, hp⟩, hL⟩ := id hk
  refine ⟨_, (pss_cons (ps_if (pt_cmpR op_lt (pe_callB (id := "len") call_len_seq (by rfl) z_len (by decide +kernel) (pa_cons (pe_fld (pv 0) rfl) pa_nil)) pe_int (nomark _)) (pss_one (ps_ret pe_non)) pss_nil)
 (pss_one (ps_ret (pe_own h_number_behind (hr.mono (by decide)) (passes_call (takes_of rfl rfl rfl rfl) (fun _ _ _ _ z => z)) (pa_cons (pe_mth0 (pv 0) c_KeptRow h_row_now (hr.mono (by decide)) pass0) (pa_cons (pe_fld (pv 0) rfl) pa_nil)))))), ?_⟩
  refine ⟨_, rfl, p, C, dx, _, _, rfl, hp, T.cl, T.nn, kf_numbers m l, l, _, rfl, .inl (SqL.of hL), _, _, rfl, rfl, _, rfl, ifD (fun e => ?_) (fun e => ?_)⟩
  · rw [List.length_map] at e
    exact q H .non (fun _ _ z => z) (.inl ⟨by omega, rfl⟩)
  · rw [List.length_map] at e
    refine ⟨_, rfl, p, dx, _, rfl, hp, kf_no m l (by decide +kernel) (by decide +kernel), _, rfl, p, l, m, xs, rfl, hk, fun H1 q1 s1 nq1 hq1 => ?_⟩
    obtain ⟨⟨dx1, hp1⟩, _⟩ := hk.same s1
    refine ⟨_, rfl, p, C, dx1, _, _, rfl, hp1, T.cl, T.nb, kf_bound m l, _, _, rfl, q1, xs, m, rfl, rfl, SqT.of hq1, m1, m2, by omega, hl, fun _ H4 ll ss s4 fo => ?_, fun _ H4 _ fo => absurd fo ft, fun i bad => (bad.no rg).elim⟩
    exact q _ _ (s1.trans s4) (.inr ⟨by omega, ll, ss, fo, rfl⟩)
end
end Tw


namespace Tw
open PySem PySem.Spec PyProof.Rows L2
abbrev s_is_figures : Stmt := topS 15
theorem sc_is_figures : FnScope ["word", "sign"] ["word"] (defScope s_is_figures) := ⟨rfl, rfl, rfl, by decide +kernel, rfl, by decide +kernel, by decide +kernel⟩
section
variable {P : Program} {w : World} {K : PySem.W.Frag} {mg : Str → Option Value} {base : Heap}
theorem ok_is_figures {c Pt : Addr} {tF : Tok} (D : TopC K mg "is_figures" s_is_figures ["word"] c) (TB : GxR.TabB base mg c Pt) (g_FIGURES : mg "FIGURES" = some (.str (Str.ofString "0123456789") tF)) (z_all : mg "all" = none) :
    Has P w K mg base CX0 2 "is_figures" ["word"] (sp1 (pFig Pt)) := by
  refine D.ok1 sc_is_figures (fun f A outer s H v1 Q E hr h => ?_)
  obtain ⟨l, rfl, ll, hT, q⟩ := h
  refine ⟨_, (pss_cons (ps_if (PW.pt (pw_or (pt_cmpR op_eq (pv 0) pe_str (nomark _)) (pw_or1 (pt_not (pt_val (pe_allG (k := 0) (ix := 1) rfl sc_is_figures.nd rfl (hr.mono (by decide)) (by rfl) z_all (by decide +kernel) TB rfl ⟨rfl, rfl, by decide +kernel, by decide +kernel, rfl, rfl⟩ (pi_str (pv 0)) (fun _ _ _ _ _ _ hr => (pe_cmpR op_in_str (pv 1) (pe_glob (v := .str _) (by rfl) g_FIGURES ⟨_, rfl⟩) (by rfl))) (fun _ => rfl))))))) (pss_one (ps_ret pe_bl)) pss_nil)
 (pss_one (ps_ret (pe_or (pe_cmpR op_eq (pv 0) pe_str (nomark _)) (pe_one (pe_cmpR op_ne (pe_ix ix_str (pv 0) pe_int (fun _ _ => rfl)) pe_str (nomark _))))))), ?_⟩
  have eF : Str.ofString "0123456789" = SX.S tenS := by decide
  have e0 : Str.ofString "0" = SX.S [48] := by decide
  refine ⟨_, rfl, rfl, _, rfl, ifD (fun e => ?_) (fun ne => ?_)⟩
  · have e2 : SX.S l = Str.ofString "" := V.str.inj e
    have e3 : l = [] := by
      have := congrArg (fun z : Str => z.cps.toList) e2
      exact this
    have := q H (tabbed_refl hT)
    rw [e3] at this
    exact this
  · have lne : l ≠ [] := fun z => ne (by rw [z]; rfl)
    refine ⟨_, rfl, SX.S l, rfl, hT, l.length, fun i H' => GxR.Tabbed Pt H H' ∧ (l.take i).all dig = true, fun H2 t2 => ⟨t2, by simp⟩, fun H2 w2 => ?_, fun i H2 hi w2 => ?_⟩
    · obtain ⟨t2, ad⟩ := w2
      rw [List.take_length] at ad
      refine ⟨by show l.toArray.size ≤ l.length; simp, _, rfl, ifF rfl ?_⟩
      have qq := q H2 t2
      unfold figs at qq
      rw [ad] at qq
      obtain ⟨c0, r, rfl⟩ : ∃ c0 r, l = c0 :: r := by
        cases l with
        | nil => exact absurd rfl lne
        | cons c0 r => exact ⟨c0, r, rfl⟩
      refine ⟨_, rfl, rfl, _, rfl, ifD (fun e => ?_) (fun n2 => ?_)⟩
      · have e2 : c0 :: r = [48] := congrArg (fun z : Str => z.cps.toList) ((V.str.inj e).trans e0)
        rw [decide_eq_true e2] at qq
        exact qq
      · have n3 : c0 :: r ≠ [48] := fun z => n2 (by rw [z, e0])
        rw [decide_eq_false n3] at qq
        refine ⟨_, rfl, SX.S (c0 :: r), 0, c0, rfl, rfl, sz ll, (by show atI (c0 :: r) ((0 : Nat) : Int) = some c0; exact atI_nat rfl), rfl, ?_⟩
        have eb : (!decide (V.str ⟨#[c0]⟩ = V.str (Str.ofString "0"))) = decide ((c0 :: r).head? ≠ some 48) := by
          by_cases z : c0 = 48
          · rw [z]
            rfl
          · rw [decide_eq_false (fun k => z (by
              have := congrArg (fun z : Str => z.cps.toList) ((V.str.inj k).trans e0)
              have h2 : [c0] = [48] := this
              exact List.head_eq_of_cons_eq h2))]
            exact (decide_eq_true (show (c0 :: r).head? ≠ some 48 from fun k => z (Option.some.inj k))).symm
        rw [eb]
        exact qq
    · obtain ⟨t2, ad⟩ := w2
      refine ⟨by show i < l.toArray.size; simpa using hi, fun v H3 hy => ?_⟩
      obtain ⟨rfl, cc, hcc, rfl⟩ := hy
      have hc2 : l[i]? = some cc := by simpa using hcc
      have ed : (!(Builtin.Str.occurrences (Str.ofString "0123456789") (⟨#[cc]⟩ : Str) 0 (Str.ofString "0123456789").length 1).isEmpty) = dig cc := by
        rw [eF]
        exact (SX.in_one tenS cc).trans (dig_in cc)
      refine ⟨_, rfl, _, _, rfl, rfl, _, rfl, fun hb => ?_, fun hb => ?_⟩
      · refine ⟨t2, ?_⟩
        rw [List.take_add_one, hc2, List.all_append, ad]
        show (true && (dig cc && true)) = true
        rw [← ed, hb]
        rfl
      · refine ⟨_, rfl, ifT rfl ?_⟩
        have qq := q H3 t2
        have ef : figs l = false := by
          have : l.all dig = false := by
            rw [List.all_eq_false]
            exact ⟨cc, List.mem_of_getElem? hc2, by rw [← ed, hb]; decide⟩
          unfold figs
          rw [this, Bool.and_false, Bool.false_and]
        rw [ef] at qq
        exact qq
end
end Tw


namespace Tw
open PySem PySem.Spec PyProof.Rows L2
abbrev s_read_rule : Stmt := topS 16
theorem sc_read_rule : FnScope ["text", "words", "times", "plus", "bound", "word"] ["text"] (defScope s_read_rule) := ⟨rfl, rfl, rfl, by decide +kernel, rfl, by decide +kernel, by decide +kernel⟩
section
variable {P : Program} {w : World} {K : PySem.W.Frag} {mg : Str → Option Value} {base : Heap}
theorem ok_read_rule {c P1 P2 CU : Addr} (D : TopC K mg "read_rule" s_read_rule ["text"] c) (TB : GxR.TabB base mg c P1) (p12 : P1 ≠ P2) (h_is_figures : Has P w K mg base CX0 2 "is_figures" ["word"] (sp1 (pFig P2)))
    (z_all : mg "all" = none) (z_isinstance : mg "isinstance" = none) (z_str : mg "str" = none) (z_len : mg "len" = none) (z_int : mg "int" = none)
    (x_NoRule : PySem.W.excIn K CU [.type "ValueError", .type "Exception", .type "BaseException", .type "object"] "ValueError.__new__" = true) (g_NoRule : mg "NoRule" = some (.ref CU)) (k_NoRule : PySem.W.keepIn K (.ref CU) = true) (e_NoRule : PySem.W.subIn K (.ref CU) (.type "BaseException") = some true) (y_NoRule : PySem.W.typeIn K (.ref CU) = some (.type "type")) :
    Has P w K mg base (L2.CX P w) 4 "read_rule" ["text"] (sp1 (pRead P1 P2 CU)) := by
  refine D.ok1X sc_read_rule (fun f A outer s H v1 Q E hr h => ?_)
  obtain ⟨a, rfl, al, hT1, hT2, q, e⟩ := h
  refine ⟨_, (pss_cons (ps_set (i := 1) sc_read_rule.nd rfl (.inl rfl) (pe_ifExp (pt_val (pe_callB (id := "isinstance") call_isA (by rfl) z_isinstance (by decide +kernel) (pa_cons (pv 0) (pa_cons (pe_bltn (v := .ty "str") (by rfl) z_str (by decide +kernel) rfl) pa_nil)))) (pe_split (pv 0) pe_str) (pe_lst pa_nil)))
 (pss_cons (ps_if (PW.pt (pw_or (pt_cmpR op_ne (pe_callB (id := "len") call_len_seq (by rfl) z_len (by decide +kernel) (pa_cons (pv 1) pa_nil)) pe_int (nomark _)) (pw_or1 (pt_not (pt_val (pe_allG (k := 2) (ix := 5) rfl sc_read_rule.nd rfl (hr.mono (by decide)) (by rfl) z_all (by decide +kernel) TB rfl ⟨rfl, rfl, by decide +kernel, by decide +kernel, rfl, rfl⟩ (pi_list (pv 1)) (fun _ _ _ _ _ _ hr => (pe_own h_is_figures (hr.mono (by decide)) pass0 (pa_cons (pv 5) pa_nil))) (fun _ => rfl))))))) (pss_one (ps_raise rfl (takes_of rfl rfl rfl rfl) (pmk_own PySem.F.excBase_ValueError x_NoRule g_NoRule k_NoRule (raises_own e_NoRule y_NoRule) (by rfl)))) pss_nil)
 (pss_cons (ps_par3 (i := 2) (j := 3) (l := 4) rfl sc_read_rule.nd rfl rfl rfl (by decide) (by decide) (by decide) rfl rfl rfl (pa_cons (pe_callTy call_int_str (by rfl) z_int (by decide +kernel) (pa_cons (pe_ix ix_list (pv 1) pe_int (fun _ _ => rfl)) pa_nil)) (pa_cons (pe_callTy call_int_str (by rfl) z_int (by decide +kernel) (pa_cons (pe_ix ix_list (pv 1) pe_int (fun _ _ => rfl)) pa_nil)) (pa_cons (pe_callTy call_int_str (by rfl) z_int (by decide +kernel) (pa_cons (pe_ix ix_list (pv 1) pe_int (fun _ _ => rfl)) pa_nil)) pa_nil))) (by rfl))
 (pss_cons (ps_if (PW.pt (pw_or (pt_cmpR op_ge (pv 2) (pv 4) (nomark _)) (pw_or1 (pt_cmpR op_ge (pv 3) (pv 4) (nomark _))))) (pss_one (ps_raise rfl (takes_of rfl rfl rfl rfl) (pmk_own PySem.F.excBase_ValueError x_NoRule g_NoRule k_NoRule (raises_own e_NoRule y_NoRule) (by rfl)))) pss_nil)
 (pss_one (ps_ret (pe_tup (pa_cons (pv 2) (pa_cons (pv 3) (pa_cons (pv 4) pa_nil)))))))))), ?_⟩
  refine ⟨_, rfl, .inr ⟨_, _, _, _, true, rfl, .ty _, .base (.str _), kit_ty (by decide +kernel), _, rfl, ifT rfl ?_⟩⟩
  refine ⟨_, rfl, ⟨_, rfl⟩, SX.S a, _, rfl, rfl, rfl, sz (by show a.toArray.size + 2 ≤ 100000; simp; omega), fun l nl => ?_⟩
  rw [split_wds]
  have s1 := same_new (o := .lst (((wds a).map SX.S).map V.str)) nl
  have hl1 : (upd H l (.lst (((wds a).map SX.S).map V.str))) l = some (.lst (((wds a).map SX.S).map V.str)) := upd_same
  have T1 := tabG_same hT1 s1
  have T2 := tabG_same hT2 s1
  generalize hH1 : upd H l (.lst (((wds a).map SX.S).map V.str)) = H1 at s1 hl1 T1 T2 ⊢
  have g1 : Grow P1 P2 H H1 := (Grow.refl hT1 hT2).same s1
  refine ⟨_, rfl, l, _, rfl, .inl (SqL.of hl1), rfl, _, rfl, ?_⟩
  rw [List.length_map, List.length_map]
  refine ifNI (fun n3 => ?_) (fun e3 => ?_)
  · refine e ?_ _ g1
    unfold readR
    split
    · rename_i x y z ew
      rw [ew] at n3
      exact absurd rfl n3
    · rfl
  · obtain ⟨x, y, z, ew⟩ : ∃ x y z, wds a = [x, y, z] := by
      match h : wds a with
      | [x, y, z] => exact ⟨x, y, z, rfl⟩
      | [] => rw [h] at e3; cases e3
      | [_] => rw [h] at e3; cases e3
      | [_, _] => rw [h] at e3; cases e3
      | _ :: _ :: _ :: _ :: r =>
        rw [h] at e3
        have : ((r.length + 4 : Nat) : Int) = 3 := e3
        omega
    have lx : ∀ v ∈ wds a, v.length ≤ 640 := fun v hv => Nat.le_trans (wds_len hv) al
    refine ⟨_, rfl, l, rfl, ⟨_, SqL.of hl1⟩, T1, 3, fun i H' => (GxR.TabG H' P1 ∧ GxR.TabG H' P2 ∧ ∀ b, b ≠ P1 → b ≠ P2 → H' b = H1 b) ∧ ((wds a).take i).all figs = true, fun H2 t2 => ⟨⟨t2.1, ?_, fun b n1 n2 => t2.2 b n1⟩, rfl⟩, fun H2 w2 => ?_, fun i H2 hi w2 => ?_⟩
    · obtain ⟨ps, e1, e2⟩ := T2
      exact ⟨ps, by rw [t2.2 P2 (Ne.symm p12)]; exact e1, e2⟩
    · obtain ⟨⟨u1, u2, u3⟩, ad⟩ := w2
      have hl2 : H2 l = some (.lst (((wds a).map SX.S).map V.str)) := by
        rw [u3 l (tabG_ne T1 hl1 (fun ps z => by cases z)) (tabG_ne T2 hl1 (fun ps z => by cases z))]
        exact hl1
      have g2 : Grow P1 P2 H H2 := g1.trans ⟨u1, u2, fun b o n1 n2 e => by rw [u3 b n1 n2]; exact e⟩
      refine ⟨⟨_, SqL.of hl2, by rw [ew]; exact Nat.le_refl 3⟩, _, rfl, ifF rfl ?_⟩
      rw [ew] at hl2 ad lx
      have ad' : (figs x && (figs y && (figs z && true))) = true := ad
      simp only [Bool.and_eq_true, and_true] at ad'
      obtain ⟨fx, fy, fz⟩ := ad'
      have l1 := lx x (by simp)
      have l2 := lx y (by simp)
      have l3 := lx z (by simp)
      refine ⟨_, rfl, l, _, 0, .str (SX.S x), rfl, rfl, SqL.of hl2, rfl, SX.S x, vl x, rfl, figs_int fx (by omega), by show x.toArray.size ≤ 640; simpa using l1, ?_⟩
      refine ⟨_, rfl, l, _, 1, .str (SX.S y), rfl, rfl, SqL.of hl2, rfl, SX.S y, vl y, rfl, figs_int fy (by omega), by show y.toArray.size ≤ 640; simpa using l2, ?_⟩
      refine ⟨_, rfl, l, _, 2, .str (SX.S z), rfl, rfl, SqL.of hl2, rfl, SX.S z, vl z, rfl, figs_int fz (by omega), by show z.toArray.size ≤ 640; simpa using l3, ?_⟩
      refine ⟨_, _, _, rfl, ?_⟩
      have er : readR a = if vl z ≤ vl x ∨ vl z ≤ vl y then none else some (vl x, vl y, vl z) := by
        unfold readR
        rw [ew]
        show (if (figs x && figs y && figs z) = true then _ else _) = _
        rw [fx, fy, fz]
        rfl
      refine ⟨_, rfl, _, rfl, _, _, rfl, rfl, _, rfl, ifD (fun c1 => ?_) (fun c1 => ?_)⟩
      · exact e (by rw [er, if_pos (.inl c1)]) _ g2
      · refine ⟨_, rfl, _, rfl, _, _, rfl, rfl, _, rfl, ifD (fun c2 => ?_) (fun c2 => ?_)⟩
        · exact e (by rw [er, if_pos (.inr c2)]) _ g2
        · refine ⟨_, rfl, _, rfl, _, rfl, by show 3 ≤ sizeLine; decide, fun u nu => ?_⟩
          have hu : H u = none := by
            cases hq : H u with
            | none => rfl
            | some o =>
              exfalso
              by_cases z1 : u = P1
              · obtain ⟨ps, e1, _⟩ := u1
                rw [z1, e1] at nu
                cases nu
              · by_cases z2 : u = P2
                · obtain ⟨ps, e1, _⟩ := u2
                  rw [z2, e1] at nu
                  cases nu
                · rw [g2.keep u o z1 z2 hq] at nu
                  cases nu
          exact q (vl x) (vl y) (vl z) (by rw [er, if_neg (fun k => k.elim c1 c2)]) _ u (g2.same (same_new nu)) hu upd_same
    · obtain ⟨⟨u1, u2, u3⟩, ad⟩ := w2
      have hl2 : H2 l = some (.lst (((wds a).map SX.S).map V.str)) := by
        rw [u3 l (tabG_ne T1 hl1 (fun ps z => by cases z)) (tabG_ne T2 hl1 (fun ps z => by cases z))]
        exact hl1
      have hi3 : i < (wds a).length := by rw [ew]; exact hi
      have hv : (((wds a).map SX.S).map V.str)[i]? = some (.str (SX.S (wds a)[i])) := by
        rw [List.getElem?_map, List.getElem?_map, List.getElem?_eq_getElem hi3]
        rfl
      refine ⟨⟨_, _, SqL.of hl2, hv⟩, fun v H3 hy => ?_⟩
      obtain ⟨rfl, hy⟩ := hy
      obtain rfl : v = .str (SX.S (wds a)[i]) := Option.some.inj ((hy _ (SqL.of hl2)).symm.trans hv)
      refine ⟨_, rfl, _, rfl, (wds a)[i], rfl, Nat.le_trans (lx _ (List.getElem_mem hi3)) (by decide), u2, fun H4 t4 => ⟨_, rfl, fun hb => ?_, fun hb => ?_⟩⟩
      · have u4 : GxR.TabG H4 P1 := by
          obtain ⟨ps, e1, e2⟩ := u1
          exact ⟨ps, by rw [t4.2 P1 p12]; exact e1, e2⟩
        refine ⟨⟨u4, t4.1, fun b n1 n2 => (t4.2 b n2).trans (u3 b n1 n2)⟩, ?_⟩
        rw [List.take_add_one, List.getElem?_eq_getElem hi3, List.all_append, ad]
        show (true && (figs (wds a)[i] && true)) = true
        rw [hb]
        rfl
      · refine ⟨_, rfl, ifT rfl ?_⟩
        have u4 : GxR.TabG H4 P1 := by
          obtain ⟨ps, e1, e2⟩ := u1
          exact ⟨ps, by rw [t4.2 P1 p12]; exact e1, e2⟩
        refine e ?_ _ (g1.trans ⟨u4, t4.1, fun b o n1 n2 eo => by rw [t4.2 b n2, u3 b n1 n2]; exact eo⟩)
        have nf : ((wds a).all figs) = false := by
          rw [List.all_eq_false]
          exact ⟨_, List.getElem_mem hi3, by rw [hb]; decide⟩
        unfold readR
        rw [ew] at nf ⊢
        show (if (figs x && figs y && figs z) = true then _ else _) = _
        have nf2 : (figs x && (figs y && (figs z && true))) = false := nf
        rw [Bool.and_true, ← Bool.and_assoc] at nf2
        rw [nf2]
        rfl
end
end Tw


namespace Tw
open PySem PySem.Spec PyProof.Rows L2
abbrev s_rule_shown : Stmt := topS 17
theorem sc_rule_shown : FnScope ["rule", "times", "plus", "bound"] ["rule"] (defScope s_rule_shown) := ⟨rfl, rfl, rfl, by decide +kernel, rfl, by decide +kernel, by decide +kernel⟩
section
variable {P : Program} {w : World} {K : PySem.W.Frag} {mg : Str → Option Value} {base : Heap}
theorem ok_rule_shown (D : Top K mg "rule_shown" s_rule_shown ["rule"]) : Has P w K mg base CX0 1 "rule_shown" ["rule"] (sp1 (pShown K)) := by
  refine D.ok1 sc_rule_shown (fun f cdv A outer s H v1 Q E hr h => ?_)
  obtain ⟨r, t, p, m, rfl, h1, R, q⟩ := h
  refine ⟨_, (pss_cons (ps_asg (pv 0) (pg_tup rfl (pgs_cons (pg_name (i := 1) sc_rule_shown.nd rfl (.inl rfl)) (pgs_cons (pg_name (i := 2) sc_rule_shown.nd rfl (.inl rfl)) (pgs_cons (pg_name (i := 3) sc_rule_shown.nd rfl (.inl rfl)) pgs_nil)))))
 (pss_one (ps_ret (pe_joined (PJ.cons (pe_fmt (pv 1)) (PJ.cons pe_str (PJ.cons (pe_fmt (pv 2)) (PJ.cons pe_str (PJ.cons (pe_fmt (pv 3)) PJ.nil))))))))), ?_⟩
  have a1 := R.t0
  have a2 := R.t1
  have a3 := R.p0
  have a4 := R.p1
  have a5 := R.b2
  refine ⟨_, rfl, r, _, rfl, h1, rfl, _, _, rfl, _, _, rfl, _, _, rfl, rfl, ?_⟩
  have k : ∀ n : Nat, (n : Int) ≤ 1000000000000 → (TL.numL n).length ≤ 13 := fun n hn => TL.numL_len (by decide) (by
    have : (10 : Nat) ^ 13 = 10000000000000 := by decide
    omega)
  have k1 := k t.toNat (by omega)
  have k2 := k p.toNat (by omega)
  have k3 := k m.toNat (by omega)
  have eb : Str.ofString " " = SX.S [32] := by decide
  have ee : Str.empty = SX.S [] := by decide
  refine ⟨_, rfl, .inr ⟨t, rfl, lg_small a1 (by omega), ?_⟩⟩
  rw [str_num a1, ee]
  refine ⟨_, rfl, by rw [SX.S_cat]; exact s_len _ (by rw [List.nil_append]; omega), ?_⟩
  rw [SX.S_cat, List.nil_append]
  refine ⟨_, rfl, by rw [eb, SX.S_cat]; exact s_len _ (by rw [List.length_append]; show _ + 1 ≤ 1000; omega), ?_⟩
  rw [eb, SX.S_cat]
  refine ⟨_, rfl, .inr ⟨p, rfl, lg_small a3 (by omega), ?_⟩⟩
  rw [str_num a3]
  refine ⟨_, rfl, by rw [SX.S_cat]; exact s_len _ (by rw [List.length_append, List.length_append]; show _ + 1 + _ ≤ 1000; omega), ?_⟩
  rw [SX.S_cat]
  refine ⟨_, rfl, by rw [SX.S_cat]; exact s_len _ (by rw [List.length_append, List.length_append, List.length_append]; show _ + 1 + _ + 1 ≤ 1000; omega), ?_⟩
  rw [SX.S_cat]
  refine ⟨_, rfl, .inr ⟨m, rfl, lg_small (by omega) (by omega), ?_⟩⟩
  rw [str_num (show 0 ≤ m by omega)]
  refine ⟨_, rfl, by rw [SX.S_cat]; exact s_len _ (by rw [List.length_append, List.length_append, List.length_append, List.length_append]; show _ + 1 + _ + 1 + _ ≤ 1000; omega), ?_⟩
  rw [SX.S_cat]
  exact q
end
end Tw


namespace Tw
open PySem PySem.Spec PyProof.Rows L2
abbrev s_read_number : Stmt := topS 46
theorem sc_read_number : FnScope ["word"] ["word"] (defScope s_read_number) := ⟨rfl, rfl, rfl, by decide +kernel, rfl, by decide +kernel, by decide +kernel⟩
abbrev s_read_word : Stmt := topS 51
theorem sc_read_word : FnScope ["kind", "word", "reader"] ["kind", "word"] (defScope s_read_word) := ⟨rfl, rfl, rfl, by decide +kernel, rfl, by decide +kernel, by decide +kernel⟩
abbrev s_read_line : Stmt := topS 52
theorem sc_read_line : FnScope ["words", "kind", "word"] ["words"] (defScope s_read_line) := ⟨rfl, rfl, rfl, by decide +kernel, rfl, by decide +kernel, by decide +kernel⟩
abbrev s_tell_next : Stmt := topS 58
theorem sc_tell_next : FnScope ["desk", "numbers"] ["desk", "numbers"] (defScope s_tell_next) := ⟨rfl, rfl, rfl, by decide +kernel, rfl, by decide +kernel, by decide +kernel⟩
abbrev s_dinit : Stmt := inClass (topS 68) 0
theorem sc_dinit : FnScope ["self"] ["self"] (defScope s_dinit) := ⟨rfl, rfl, rfl, by decide +kernel, rfl, by decide +kernel, by decide +kernel⟩
abbrev s_take_rule : Stmt := inClass (topS 68) 2
theorem sc_take_rule : FnScope ["self", "text"] ["self", "text"] (defScope s_take_rule) := ⟨rfl, rfl, rfl, by decide +kernel, rfl, by decide +kernel, by decide +kernel⟩
abbrev s_ask : Stmt := inClass (topS 68) 1
theorem sc_ask : FnScope ["self", "line", "words", "numbers", "action"] ["self", "line"] (defScope s_ask) := ⟨rfl, rfl, rfl, by decide +kernel, rfl, by decide +kernel, by decide +kernel⟩
section
variable {P : Program} {w : World} {K : PySem.W.Frag} {mg : Str → Option Value} {base : Heap}
theorem ok_read_number {CA P1 P2 : Addr} {tM : Tok} (D : Top K mg "read_number" s_read_number ["word"]) (p12 : P1 ≠ P2) (h_is_figures : Has P w K mg base CX0 2 "is_figures" ["word"] (sp1 (pFig P2))) (z_len : mg "len" = none) (z_int : mg "int" = none) (g_MOST_FIGURES : mg "MOST_FIGURES" = some (.int 19 tM))
    (x_NoAsk : PySem.W.excIn K CA [.type "ValueError", .type "Exception", .type "BaseException", .type "object"] "ValueError.__new__" = true) (g_NoAsk : mg "NoAsk" = some (.ref CA)) (k_NoAsk : PySem.W.keepIn K (.ref CA) = true) (e_NoAsk : PySem.W.subIn K (.ref CA) (.type "BaseException") = some true) (y_NoAsk : PySem.W.typeIn K (.ref CA) = some (.type "type")) :
    Has P w K mg base (L2.CX P w) 3 "read_number" ["word"] (sp1 (pRdNum P1 P2)) := by
  refine D.ok1X sc_read_number (fun f cdv A outer s H v1 Q E hr h => ?_)
  obtain ⟨n, rfl, ln, hT1, hT2, q⟩ := h
  refine ⟨_, (pss_cons (ps_if (PW.pt (pw_or (pt_not (pt_val (pe_own h_is_figures (hr.mono (by decide)) pass0 (pa_cons (pv 0) pa_nil)))) (pw_or1 (pt_cmpR op_gt (pe_callB (id := "len") call_len_str (by rfl) z_len (by decide +kernel) (pa_cons (pv 0) pa_nil)) (pe_glob (v := .int _) (by rfl) g_MOST_FIGURES ⟨_, rfl⟩) (nomark _))))) (pss_one (ps_raise rfl (takes_of rfl rfl rfl rfl) (pmk_own PySem.F.excBase_ValueError x_NoAsk g_NoAsk k_NoAsk (raises_own e_NoAsk y_NoAsk) (by rfl)))) pss_nil)
 (pss_one (ps_ret (pe_callTy call_int_str (by rfl) z_int (by decide +kernel) (pa_cons (pv 0) pa_nil))))), ?_⟩
  have lS : ((SX.S (TL.numL n)).length : Int) = ((TL.numL n).length : Int) := by show (((TL.numL n).toArray.size : Nat) : Int) = _; simp
  refine ⟨_, rfl, _, rfl, TL.numL n, rfl, by omega, hT2, fun H1 t1 => ?_⟩
  rw [figs_num]
  refine ⟨_, rfl, ifF rfl ?_⟩
  refine ⟨_, rfl, _, rfl, sz (by omega), _, _, rfl, rfl, _, rfl, ifD (fun e => absurd e (by rw [lS]; omega)) (fun _ => ?_)⟩
  refine ⟨_, rfl, SX.S (TL.numL n), vl (TL.numL n), rfl, figs_int (figs_num n) (by omega), by omega, ?_⟩
  rw [vl_num]
  exact q H1 (tabbed_grow p12 hT1 t1)
theorem ok_read_word {dR : Addr} {es : Array DictEntry} {nR : Nat} (D : Top K mg "read_word" s_read_word ["kind", "word"]) (g_READERS : mg "READERS" = some (.ref dR)) (kd_READERS : KDict K w dR es nR) :
    Has P w K mg base (L2.CX P w) 5 "read_word" ["kind", "word"] (sp2 (pRdWord P w K mg base dR)) := by
  refine D.ok2X sc_read_word (fun f cdv A outer s H v1 v2 Q E hr h => ?_)
  obtain ⟨z, f', sp, rfl, hE, hh, q⟩ := h
  refine ⟨_, (pss_cons (ps_set (i := 2) sc_read_word.nd rfl (.inl rfl) (pe_ix (ix_kd (K := K) rfl kd_READERS) (pe_glob (v := .ref _) (by rfl) g_READERS rfl) (pv 0) (fun _ _ => rfl)))
 (pss_one (ps_ret (pe_callH (k := 4) (i := 2) (hr.mono (by decide)) rfl (.inl rfl) (passes_call (takes_of rfl rfl rfl rfl) (fun _ _ _ _ z => z)) (pa_cons (pv 1) pa_nil))))), ?_⟩
  exact ⟨_, rfl, z, _, rfl, rfl, hE, _, _, rfl, hh, _, rfl, q⟩
theorem ok_read_line {CA P1 P2 dL dR : Addr} {es : Array DictEntry} {nL : Nat} (D : Top K mg "read_line" s_read_line ["words"]) (g_LINES : mg "LINES" = some (.ref dL)) (kd_LINES : KDict K w dL es nL) (h_read_word : Has P w K mg base (L2.CX P w) 5 "read_word" ["kind", "word"] (sp2 (pRdWord P w K mg base dR))) (z_len : mg "len" = none) (z_zip : mg "zip" = none)
    (x_NoAsk : PySem.W.excIn K CA [.type "ValueError", .type "Exception", .type "BaseException", .type "object"] "ValueError.__new__" = true) (g_NoAsk : mg "NoAsk" = some (.ref CA)) (k_NoAsk : PySem.W.keepIn K (.ref CA) = true) (e_NoAsk : PySem.W.subIn K (.ref CA) (.type "BaseException") = some true) (y_NoAsk : PySem.W.typeIn K (.ref CA) = some (.type "type")) :
    Has P w K mg base (L2.CX P w) 6 "read_line" ["words"] (sp1 (pRdLine P w K mg base dL dR P1 P2)) := by
  refine D.ok1X sc_read_line (fun f cdv A outer s H v1 Q E hr h => ?_)
  obtain ⟨l, tp, w0, ws, zs, ns, rfl, hl, hE, hT, lz, ln, lw, hR, hT1, hT2, q⟩ := h
  refine ⟨_, (pss_cons (ps_if (PW.pt (pw_or (pt_cmpR (op_niK (K := K) rfl kd_LINES) (pe_ix ix_list (pv 0) pe_int (fun _ _ => rfl)) (pe_glob (v := .ref _) (by rfl) g_LINES rfl) (by rfl)) (pw_or1 (pt_cmpR op_ne (pe_callB (id := "len") call_len_seq (by rfl) z_len (by decide +kernel) (pa_cons (pv 0) pa_nil)) (pe_op op_add pe_int (pe_callB (id := "len") call_len_seq (by rfl) z_len (by decide +kernel) (pa_cons (pe_ix (ix_kd (K := K) rfl kd_LINES) (pe_glob (v := .ref _) (by rfl) g_LINES rfl) (pe_ix ix_list (pv 0) pe_int (fun _ _ => rfl)) (fun _ _ => rfl)) pa_nil))) (nomark _))))) (pss_one (ps_raise rfl (takes_of rfl rfl rfl rfl) (pmk_own PySem.F.excBase_ValueError x_NoAsk g_NoAsk k_NoAsk (raises_own e_NoAsk y_NoAsk) (by rfl)))) pss_nil)
 (pss_one (ps_ret (pe_lc (own := [("kind", 1), ("word", 2)]) (by rfl) sc_read_line.nd (pi_x2 (by rfl) z_zip (pa_cons (pe_ix (ix_kd (K := K) rfl kd_LINES) (pe_glob (v := .ref _) (by rfl) g_LINES rfl) (pe_ix ix_list (pv 0) pe_int (fun _ _ => rfl)) (fun _ _ => rfl)) (pa_cons (pe_slice sl_list (pv 0) (po_some pe_int) po_none) pa_nil))) (blkOk_by (own := [("kind", 1), ("word", 2)]) (N := ["words", "kind", "word"]) (sc := defScope s_read_line) (by decide +kernel)) (fun _ _ _ _ _ => tup_in (K := K) (n := 2) rfl rfl (pgs_cons (pg_name (i := 1) sc_read_line.nd rfl (Or.inl rfl)) (pgs_cons (pg_name (i := 2) sc_read_line.nd rfl (Or.inl rfl)) pgs_nil))) (fun _ _ _ _ _ => pts_nil) (fun _ _ _ _ _ => (pe_own h_read_word (hr.mono (by decide)) passL (pa_cons (pv 1) (pa_cons (pv 2) pa_nil)))))))), ?_⟩
  have e1 : ((((w0 :: ws).map V.str).length : Nat) : Int) = 1 + (((zs.map V.str).length : Nat) : Int) := by
    rw [List.length_map, List.length_map, List.length_cons, lz]
    omega
  refine ⟨_, rfl, l, _, 0, .str w0, rfl, rfl, SqL.of hl, atI_nat (j := 0) rfl, w0, true, rfl, rfl, hE.key, _, rfl, ifF rfl ?_⟩
  refine ⟨_, rfl, l, _, rfl, .inl (SqL.of hl), _, rfl, l, _, 0, .str w0, rfl, rfl, SqL.of hl, atI_nat (j := 0) rfl, w0, .ref tp, rfl, rfl, hE, tp, _, rfl, .inr (hT H), _, _, rfl, rfl, rfl, _, rfl, ifF (by rw [e1]; exact (by rw [decide_eq_true rfl]; rfl)) ?_⟩
  refine ⟨_, rfl, l, _, 0, .str w0, rfl, rfl, SqL.of hl, atI_nat (j := 0) rfl, w0, .ref tp, rfl, rfl, hE, _, rfl, _, rfl, l, _, rfl, SqL.of hl, fun l2 nl2 => ?_⟩
  rw [show (some (1 : Int)) = some ((1 : Nat) : Int) from rfl, cut_drop]
  have s2 := same_new (o := .lst (((w0 :: ws).map V.str).drop 1)) nl2
  have hl2 : (upd H l2 (.lst (((w0 :: ws).map V.str).drop 1))) l2 = some (.lst (ws.map V.str)) := upd_same
  have T1 := tabG_same hT1 s2
  have T2 := tabG_same hT2 s2
  have g1 : Grow P1 P2 H (upd H l2 (.lst (((w0 :: ws).map V.str).drop 1))) := (Grow.refl hT1 hT2).same s2
  generalize upd H l2 (.lst (((w0 :: ws).map V.str).drop 1)) = H1 at hl2 T1 T2 g1 ⊢
  refine ⟨true, false, tp, l2, _, _, rfl, hT H1, SqL.of hl2, fun L nL => ?_⟩
  have gl2 : ∀ {H' : Hp}, Grow P1 P2 H1 H' → H' l2 = some (.lst (ws.map V.str)) := fun g => g.get T1 T2 hl2 (fun ps z => by cases z)
  have nL1 : L ≠ P1 := fun z => by obtain ⟨ps, e, _⟩ := T1; rw [← z, nL] at e; cases e
  have nL2 : L ≠ P2 := fun z => by obtain ⟨ps, e, _⟩ := T2; rw [← z, nL] at e; cases e
  have n21 : l2 ≠ P1 := tabG_ne T1 hl2 (fun ps z => by cases z)
  have n22 : l2 ≠ P2 := tabG_ne T2 hl2 (fun ps z => by cases z)
  have n2L : l2 ≠ L := fun z => by rw [z, nL] at hl2; cases hl2
  refine lc_it (walk_x2 (K := K) (t1 := true) (t2 := false) (a1 := tp) (a2 := l2) (l1 := zs.map V.str) (l2 := ws.map V.str) (n := ws.length) (by rw [List.length_map, List.length_map]; omega)) (fun j H' => (∀ b o, b ≠ P1 → b ≠ P2 → b ≠ L → H1 b = some o → H' b = some o) ∧ GxR.TabG H' P1 ∧ GxR.TabG H' P2 ∧ H' L = some (.lst ((ns.take j).map V.int))) ⟨fun b o _ _ n e => by rw [upd_ne n]; exact e, tabG_same T1 (same_new nL), tabG_same T2 (same_new nL), upd_same⟩ ?_ ?_ ?_
  · rintro i H' _ ⟨kp, _, _, _⟩
    exact ⟨hT _, SqL.of (kp _ _ n21 n22 n2L hl2)⟩
  · rintro i x H' H'' hi ⟨kp, U1, U2, hL⟩ ⟨T, x1, x2, rfl, nT, rfl, y1, y2⟩
    have li : i < ws.length := hi
    have z1 : zs[i]? = some (zs[i]'(by omega)) := List.getElem?_eq_getElem (by omega)
    have z2 : ws[i]? = some (ws[i]'li) := List.getElem?_eq_getElem li
    have z3 : ns[i]? = some (ns[i]'(by omega)) := List.getElem?_eq_getElem (by omega)
    generalize zs[i]'(by omega) = z at z1
    generalize ws[i]'li = w' at z2
    generalize ns[i]'(by omega) = n at z3
    have e1 : x1 = .str z := by
      have := y1
      rw [List.getElem?_map, z1] at this
      exact (Option.some.inj this).symm
    have e2 : x2 = .str w' := by
      have := y2
      rw [List.getElem?_map, z2] at this
      exact (Option.some.inj this).symm
    subst e1 e2
    obtain ⟨f', sp, hE', hh, go⟩ := hR i z w' n z1 z2 z3
    have sT := same_new (o := .tup [.str z, .str w']) nT
    refine ⟨T, _, rfl, SqT.of upd_same, rfl, _, _, rfl, _, _, rfl, rfl, rfl, yesX ?_⟩
    refine ⟨_, rfl, _, rfl, _, _, rfl, z, f', sp, rfl, hE', hh, go _ _ _ (tabG_same U1 sT) (tabG_same U2 sT) fun H3 g3 => ?_⟩
    have hL3 := g3.keep _ _ nL1 nL2 (sT _ _ hL)
    refine ⟨_, hL3, szl (by rw [List.length_map]; have := List.length_take_le i ns; omega), fun b o m1 m2 m3 e => by rw [upd_ne m3]; exact g3.keep _ _ m1 m2 (sT _ _ (kp _ _ m1 m2 m3 e)), ?_, ?_, ?_⟩
    · obtain ⟨ps, e, t⟩ := g3.t1
      exact ⟨ps, by rw [upd_ne (Ne.symm nL1)]; exact e, t⟩
    · obtain ⟨ps, e, t⟩ := g3.t2
      exact ⟨ps, by rw [upd_ne (Ne.symm nL2)]; exact e, t⟩
    · rw [upd_same, List.take_add_one, z3, List.map_append]
      rfl
  · rintro H' ⟨kp, U1, U2, hL⟩
    rw [← ln, List.take_length] at hL
    refine q H' L ⟨U1, U2, fun b o m1 m2 e => ?_⟩ ?_ hL
    · have e' := g1.keep _ _ m1 m2 e
      exact kp _ _ m1 m2 (fun z => by rw [z, nL] at e'; cases e') e'
    · cases e : H L with
      | none => rfl
      | some o =>
        have e' := g1.keep _ _ nL1 nL2 e
        rw [nL] at e'
        cases e'
theorem ok_tell_next {C CK CN P1 P2 : Addr} (D : Top K mg "tell_next" s_tell_next ["desk", "numbers"]) (T : DTx K mg C) (h_next_of : Has P w K mg base (L2.CX P w) 4 "next_of" ["rule", "number"] (sp2 (pNextOf K CN))) (z_str : mg "str" = none) :
    Has P w K mg base (L2.CX P w) 11 "tell_next" ["desk", "numbers"] (sp2 (pTellNext C CK P1 P2)) := by
  refine D.ok2X sc_tell_next (fun f cdv A outer s H v1 v2 Q E hr h => ?_)
  obtain ⟨p, u, k, l, nl, t, pl, m, n, xs, rfl, rfl, hd, R, hn, n0, n1, hT1, hT2, q⟩ := h
  refine ⟨_, (pss_one (ps_ret (pe_lst (pa_cons (pe_callTy call_str_int (by rfl) z_str (by decide +kernel) (pa_cons (pe_own h_next_of (hr.mono (by decide)) (passes_call (takes_of rfl rfl rfl rfl) (fun _ _ _ _ z => z)) (pa_cons (pe_fld (pv 0) rfl) (pa_cons (pe_ix ix_list (pv 1) pe_int (fun _ _ => rfl)) pa_nil))) pa_nil)) pa_nil)))), ?_⟩
  obtain ⟨⟨dx, hp⟩, hu, hk⟩ := hd
  refine ⟨_, rfl, p, C, dx, _, _, rfl, hp, T.cl, T.nr, dkf_rule u k, ?_⟩
  refine ⟨_, rfl, nl, _, 0, _, rfl, rfl, SqL.of hn, rfl, ?_⟩
  refine ⟨_, _, rfl, u, t, pl, m, n, rfl, rfl, SqT.of hu, R, fun _ _ => ?_, fun z => absurd ⟨n0, n1⟩ z⟩
  have mp : 0 < m := by omega
  have nb := stp_rng (t := t) (p := pl) mp n
  have b2 := R.b2
  refine ⟨_, rfl, lg_small nb.1 (by omega), ?_⟩
  rw [str_num nb.1]
  refine ⟨by show 1 ≤ sizeLine; decide, fun q1 nq1 => ?_⟩
  exact q _ q1 ((Grow.refl hT1 hT2).same (same_new nq1)) nq1 upd_same
theorem ok_dinit {C CK f : Addr} {fd : FuncData} (F : Fun K "__init__" "Desk.__init__" s_dinit f fd) (T : DTx K mg C) (M : Mk K C f) (b : Binds K fd ["self"] []) (g_KeptRow : mg "KeptRow" = some (.ref CK)) (h_kinit : HasI P w K mg base CX0 1 CK ["self", "bound"] (sp2 (pKinit CK))) : HasI P w K mg base CX0 3 C ["self"] (sp1 (pDinit C CK)) := by
  refine ⟨f, fd, F.ok sc_dinit (fun vs H Q E h => by obtain ⟨_, rfl, _⟩ := h; rfl) (fun cdv A outer s H vs Q E hr h => ?_), M, b, lk_of F⟩
  obtain ⟨v1, rfl, H0, p, dx, rfl, s0, np, hp, q⟩ := h
  refine ⟨_, (pss_cons (ps_fld (pv 0) (pe_tup (pa_cons pe_int (pa_cons pe_int (pa_cons pe_int pa_nil)))) rfl)
 (pss_one (ps_fld (pv 0) (pe_mkO h_kinit (hr.mono (by decide)) g_KeptRow pass0 (pa_cons pe_int pa_nil)) rfl))), ?_⟩
  refine ⟨by show 3 ≤ sizeLine; decide, fun u nu => ?_⟩
  have npu : p ≠ u := fun z => by rw [← z, hp] at nu; cases nu
  refine ⟨_, rfl, p, C, dx, _, rfl, by rw [upd_ne npu]; exact hp, T.cl, T.nr, by show 0 < 1000; decide, ?_⟩
  refine fun kp dxk nkp ndxk nep => ?_
  have hp2 := upd_same (H := (upd H u (.tup [.int 0, .int 0, .int 1]))) (a := p) (o := .ins C dx (putF "rule" (.ref u) []))
  have hu2 : (upd (upd H u (.tup [.int 0, .int 0, .int 1])) p (.ins C dx (putF "rule" (.ref u) []))) u = some (.tup [.int 0, .int 0, .int 1]) := by rw [upd_ne (Ne.symm npu), upd_same]
  have s02 : ∀ b o, b ≠ p → H b = some o → (upd (upd H u (.tup [.int 0, .int 0, .int 1])) p (.ins C dx (putF "rule" (.ref u) []))) b = some o := fun b o n e => by rw [upd_ne n, upd_ne (ne_of_none e nu)]; exact e
  generalize upd (upd H u (.tup [.int 0, .int 0, .int 1])) p (.ins C dx (putF "rule" (.ref u) [])) = H2 at nkp ndxk hp2 hu2 s02 ⊢
  have sp : Same H2 (upd (upd H2 dxk (.own kp)) kp (.ins CK dxk [])) := (same_new ndxk).trans (same_new (by rw [upd_ne (Ne.symm nep)]; exact nkp))
  have kpp : kp ≠ p := fun z => by rw [z, hp2] at nkp; cases nkp
  refine ⟨_, _, rfl, H2, kp, dxk, 1, rfl, rfl, sp, nkp, upd_same, fun H3 l s3 nl npl K3 => ⟨rfl, _, rfl, p, C, dx, _, rfl, s3 _ _ hp2, T.cl, T.nk, by show 1 < 1000; decide, ?_⟩⟩
  have lp : l ≠ p := fun z => by rw [z, hp2] at nl; cases nl
  obtain ⟨⟨dk', hk'⟩, hl'⟩ := K3
  refine q _ u kp l (fun b o e => ?_) ⟨⟨dx, upd_same⟩, by rw [upd_ne (Ne.symm npu)]; exact s3 _ _ hu2, ⟨dk', by rw [upd_ne kpp]; exact hk'⟩, by rw [upd_ne lp]; exact hl'⟩ (by
    cases e : H0 l with
    | none => rfl
    | some o => rw [s02 _ _ lp (s0 _ _ e)] at nl; cases nl)
  have nbp : b ≠ p := fun z => by rw [z, np] at e; cases e
  rw [upd_ne nbp]
  exact s3 _ _ (s02 _ _ nbp (s0 _ _ e))
theorem ok_take_rule {C CK CU P1 P2 : Addr} (D : TopM K C "take_rule" "Desk.take_rule" s_take_rule ["self", "text"]) (T : DTx K mg C) (g_KeptRow : mg "KeptRow" = some (.ref CK)) (h_kinit : HasI P w K mg base CX0 1 CK ["self", "bound"] (sp2 (pKinit CK))) (h_read_rule : Has P w K mg base (L2.CX P w) 4 "read_rule" ["text"] (sp1 (pRead P1 P2 CU))) :
    HasM P w K mg base (L2.CX P w) 5 C "take_rule" ["self", "text"] (sp2 (pTake2 C CK P1 P2)) := by
  refine D.okX sc_take_rule (fun vs H Q E h => by obtain ⟨_, _, rfl, _⟩ := h; rfl) (fun f cdv A outer s H vs Q E hr h => ?_)
  obtain ⟨v1, v2, rfl, p, dx, u, k, r, t, pl, m, rfl, rfl, lr, hp, er, hT1, hT2, q⟩ := h
  have c_Desk := T.cl
  refine ⟨_, (pss_cons (ps_fld (pv 0) (pe_own h_read_rule (hr.mono (by decide)) (passes_call (takes_of rfl rfl rfl rfl) (fun _ _ _ _ z => z)) (pa_cons (pv 1) pa_nil)) rfl)
 (pss_one (ps_fld (pv 0) (pe_mkO h_kinit (hr.mono (by decide)) g_KeptRow pass0 (pa_cons (pe_ix ix_tup (pe_fld (pv 0) rfl) pe_int (fun _ _ => rfl)) pa_nil)) rfl))), ?_⟩
  refine ⟨_, rfl, _, rfl, r, rfl, lr, hT1, hT2, (fun t' p' m' e' H1 q1 g1 nq1 hq1 => ?_), (fun e => by rw [er] at e; cases e)⟩
  rw [er] at e'
  cases e'
  have hp1 := g1.get hT1 hT2 hp (fun ps z => by cases z)
  have pP1 : p ≠ P1 := tabG_ne hT1 hp (fun ps z => by cases z)
  have pP2 : p ≠ P2 := tabG_ne hT2 hp (fun ps z => by cases z)
  have nqp : q1 ≠ p := fun z => by rw [z, hp1] at hq1; cases hq1
  refine ⟨_, rfl, p, C, dx, _, rfl, hp1, T.cl, T.nr, by show 2 < 1000; decide, ?_⟩
  have hp2 : (upd H1 p (.ins C dx (putF "rule" (.ref q1) (dkf u k)))) p = some (.ins C dx (dkf q1 k)) := by rw [upd_same, dkf_set1]
  have hq2 : (upd H1 p (.ins C dx (putF "rule" (.ref q1) (dkf u k)))) q1 = some (.tup [.int t, .int pl, .int m]) := by rw [upd_ne nqp]; exact hq1
  have s12 : ∀ b o, b ≠ p → H1 b = some o → (upd H1 p (.ins C dx (putF "rule" (.ref q1) (dkf u k)))) b = some o := fun b o n e => by rw [upd_ne n]; exact e
  have T1 : GxR.TabG (upd H1 p (.ins C dx (putF "rule" (.ref q1) (dkf u k)))) P1 := by
    obtain ⟨ps, e, z⟩ := g1.t1
    exact ⟨ps, by rw [upd_ne (Ne.symm pP1)]; exact e, z⟩
  have T2 : GxR.TabG (upd H1 p (.ins C dx (putF "rule" (.ref q1) (dkf u k)))) P2 := by
    obtain ⟨ps, e, z⟩ := g1.t2
    exact ⟨ps, by rw [upd_ne (Ne.symm pP2)]; exact e, z⟩
  generalize upd H1 p (.ins C dx (putF "rule" (.ref q1) (dkf u k))) = H2 at hp2 hq2 s12 T1 T2 ⊢
  refine ⟨_, rfl, p, C, dx, _, _, rfl, hp2, T.cl, T.nr, dkf_rule q1 k, q1, _, 2, .int m, rfl, rfl, SqT.of hq2, rfl, fun kp dxk nkp ndxk nep => ?_⟩
  have sp : Same H2 (upd (upd H2 dxk (.own kp)) kp (.ins CK dxk [])) := (same_new ndxk).trans (same_new (by rw [upd_ne (Ne.symm nep)]; exact nkp))
  have kpp : kp ≠ p := fun z => by rw [z, hp2] at nkp; cases nkp
  refine ⟨_, _, rfl, H2, kp, dxk, m, rfl, rfl, sp, nkp, upd_same, fun H3 l s3 nl npl K3 => ⟨rfl, _, rfl, p, C, dx, _, rfl, s3 _ _ hp2, T.cl, T.nk, by show 2 < 1000; decide, ?_⟩⟩
  have lp : l ≠ p := fun z => by rw [z, hp2] at nl; cases nl
  obtain ⟨⟨dk', hk'⟩, hl'⟩ := K3
  have lf : H l = none := by
    cases e : H l with
    | none => rfl
    | some o =>
      have n1 : l ≠ P1 := fun z => by obtain ⟨ps, e2, _⟩ := T1; rw [← z, nl] at e2; cases e2
      have n2 : l ≠ P2 := fun z => by obtain ⟨ps, e2, _⟩ := T2; rw [← z, nl] at e2; cases e2
      rw [s12 _ _ lp (g1.keep _ _ n1 n2 e)] at nl
      cases nl
  refine q _ q1 kp l ⟨?_, ?_, fun b o n1 n2 n3 e => ?_⟩ ⟨⟨dx, upd_same⟩, by rw [upd_ne nqp]; exact s3 _ _ hq2, ⟨dk', by rw [upd_ne kpp]; exact hk'⟩, by rw [upd_ne lp]; exact hl'⟩ lf
  · obtain ⟨ps, e, z⟩ := tabG_same T1 s3
    exact ⟨ps, by rw [upd_ne (Ne.symm pP1)]; exact e, z⟩
  · obtain ⟨ps, e, z⟩ := tabG_same T2 s3
    exact ⟨ps, by rw [upd_ne (Ne.symm pP2)]; exact e, z⟩
  · rw [upd_ne n3]
    exact s3 _ _ (s12 _ _ n3 (g1.keep _ _ n1 n2 e))
theorem ok_ask {C CK P1 P2 dL dR dA : Addr} {es : Array DictEntry} {nA : Nat} {tH : Tok} (D : TopM K C "ask" "Desk.ask" s_ask ["self", "line"]) (T : DTx K mg C) (h_take_rule : HasM P w K mg base (L2.CX P w) 5 C "take_rule" ["self", "text"] (sp2 (pTake2 C CK P1 P2))) (h_read_line : Has P w K mg base (L2.CX P w) 6 "read_line" ["words"] (sp1 (pRdLine P w K mg base dL dR P1 P2)))
    (g_ACTIONS : mg "ACTIONS" = some (.ref dA)) (kd_ACTIONS : KDict K w dA es nA) (g_RULE_HEAD : mg "RULE_HEAD" = some (.str (Str.ofString "rule ") tH)) (z_len : mg "len" = none) :
    HasM P w K mg base (L2.CX P w) 12 C "ask" ["self", "line"] (sp2 (pAsk P w K mg base C CK P1 P2 dL dR dA)) := by
  refine D.okX sc_ask (fun vs H Q E h => by obtain ⟨_, _, rfl, _⟩ := h; rfl) (fun f cdv A outer s H vs Q E hr h => ?_)
  obtain ⟨v1, v2, rfl, p, dx, u, k, line, rfl, rfl, ll, hp, hT1, hT2, h⟩ := h
  have c_Desk := T.cl
  refine ⟨_, (pss_cons (ps_if (pt_val (pe_m1 PySem.F.slot_str_startswith PySem.F.type_str_startswith mt_startswith (pv 1) (pe_glob (v := .str _) (by rfl) g_RULE_HEAD ⟨_, rfl⟩))) (pss_cons (ps_expr (pe_mth (pv 0) c_Desk h_take_rule (hr.mono (by decide)) (passes_call (takes_of rfl rfl rfl rfl) (fun _ _ _ _ z => z)) (pa_cons (pe_slice sl_str (pv 1) (po_some (pe_callB (id := "len") call_len_str (by rfl) z_len (by decide +kernel) (pa_cons (pe_glob (v := .str _) (by rfl) g_RULE_HEAD ⟨_, rfl⟩) pa_nil))) po_none) pa_nil)))
 (pss_one (ps_ret (pe_lst pa_nil)))) pss_nil)
 (pss_cons (ps_set (i := 2) sc_ask.nd rfl (.inl rfl) (pe_split (pv 1) pe_str))
 (pss_cons (ps_set (i := 3) sc_ask.nd rfl (.inl rfl) (pe_own h_read_line (hr.mono (by decide)) (passes_call (takes_of rfl rfl rfl rfl) (fun _ _ _ _ z => z)) (pa_cons (pv 2) pa_nil)))
 (pss_cons (ps_set (i := 4) sc_ask.nd rfl (.inl rfl) (pe_ix (ix_kd (K := K) rfl kd_ACTIONS) (pe_glob (v := .ref _) (by rfl) g_ACTIONS rfl) (pe_ix ix_list (pv 2) pe_int (fun _ _ => rfl)) (fun _ _ => rfl)))
 (pss_one (ps_ret (pe_callH (k := 11) (i := 4) (hr.mono (by decide)) rfl (.inl rfl) (passes_call (takes_of rfl rfl rfl rfl) (fun _ _ _ _ z => z)) (pa_cons (pv 0) (pa_cons (pv 3) pa_nil))))))))), ?_⟩
  have ls : (SX.S line).length ≤ sizeLine := s_len _ (by omega)
  rcases h with ⟨r, t, pl, m, rfl, er, q⟩ | ⟨w0, ws, zs, ns, tp, f', sp, ns0, ew, hE, hT, lz, ln, lw9, hR, hA, hh, q⟩
  · refine ⟨_, rfl, ⟨_, rfl⟩, _, _, rfl, rfl, _, rfl, ifT (starts_head r) ?_⟩
    refine ⟨_, rfl, p, dx, _, rfl, hp, dkf_no u k (by decide +kernel) (by decide +kernel), _, rfl, _, rfl, by decide, _, rfl, _, rfl, ls, ?_⟩
    rw [show (((Str.ofString "rule ").length : Nat) : Int) = 5 from rfl, cut_head]
    refine ⟨_, _, rfl, p, dx, u, k, r, t, pl, m, rfl, rfl, by rw [List.length_append] at ll; omega, hp, er, hT1, hT2, fun H1 u' k' l' g1 D1 nl1 => ?_⟩
    refine ⟨by show 0 ≤ sizeLine; decide, fun q1 nq1 => ?_⟩
    have s1 := same_new (o := .lst []) nq1
    obtain ⟨dx1, hp1⟩ := D1.1
    exact q _ u' k' l' q1 (g1.same s1) (D1.same s1) nl1 (fun z => by have := D1.2.2.2; rw [z, nq1] at this; cases this) (g1.free (some_ne hp1) nq1) upd_same
  · refine ⟨_, rfl, ⟨_, rfl⟩, _, _, rfl, rfl, _, rfl, ifF ns0 ?_⟩
    refine ⟨_, rfl, ⟨_, rfl⟩, _, _, rfl, rfl, rfl, sz (by show line.toArray.size + 2 ≤ 100000; simp; omega), fun lw nlw => ?_⟩
    rw [split_wds, ew]
    have s1 := same_new (o := .lst (((w0 :: ws).map SX.S).map V.str)) nlw
    have hl1 : (upd H lw (.lst (((w0 :: ws).map SX.S).map V.str))) lw = some (.lst ((SX.S w0 :: ws.map SX.S).map V.str)) := upd_same
    have g1 : Grow P1 P2 H (upd H lw (.lst (((w0 :: ws).map SX.S).map V.str))) := (Grow.refl hT1 hT2).same s1
    generalize upd H lw (.lst (((w0 :: ws).map SX.S).map V.str)) = H1 at hl1 g1 ⊢
    refine ⟨_, rfl, _, rfl, lw, tp, SX.S w0, ws.map SX.S, zs, ns, rfl, hl1, hE, hT, by rw [List.length_map]; exact lz, by rw [List.length_map]; exact ln, by rw [List.length_map]; assumption, (fun i z w' n h1 h2 h3 => ?_), g1.t1, g1.t2, fun H2 q2 g2 nq2 hq2 => ?_⟩
    · rw [List.getElem?_map] at h2
      cases e : ws[i]? with
      | none => rw [e] at h2; cases h2
      | some w'' =>
        rw [e] at h2
        cases h2
        exact hR i z w'' n h1 e h3
    · have hl2 := g2.get g1.t1 g1.t2 hl1 (fun ps z => by cases z)
      refine ⟨_, rfl, lw, _, 0, .str (SX.S w0), rfl, rfl, SqL.of hl2, atI_nat (j := 0) rfl, SX.S w0, .ref f', rfl, rfl, hA, ?_⟩
      exact ⟨f', sp, rfl, hh, _, rfl, _, rfl, q H2 q2 (g1.trans g2) hq2⟩
end
end Tw


namespace Tw
open PySem PySem.Spec PyProof.Rows L2
abbrev s_check_small : Stmt := topS 54
theorem sc_check_small : FnScope ["rule"] ["rule"] (defScope s_check_small) := ⟨rfl, rfl, rfl, by decide +kernel, rfl, by decide +kernel, by decide +kernel⟩
section
variable {P : Program} {w : World} {K : PySem.W.Frag} {mg : Str → Option Value} {base : Heap}
theorem ok_check_small {CA : Addr} {tM : Tok} (D : Top K mg "check_small" s_check_small ["rule"]) (g_MOST_SMALL_BOUND : mg "MOST_SMALL_BOUND" = some (.int 2000 tM))
    (x_NoAsk : PySem.W.excIn K CA [.type "ValueError", .type "Exception", .type "BaseException", .type "object"] "ValueError.__new__" = true) (g_NoAsk : mg "NoAsk" = some (.ref CA)) (k_NoAsk : PySem.W.keepIn K (.ref CA) = true) (e_NoAsk : PySem.W.subIn K (.ref CA) (.type "BaseException") = some true) (y_NoAsk : PySem.W.typeIn K (.ref CA) = some (.type "type")) :
    Has P w K mg base (L2.CX P w) 1 "check_small" ["rule"] (sp1 (pSmall K CA)) := by
  refine D.ok1X sc_check_small (fun f cdv A outer s H v1 Q E hr h => ?_)
  obtain ⟨r, t, p, m, rfl, h1, q, e⟩ := h
  refine ⟨_, (pss_one (ps_if (pt_cmpR op_gt (pe_ix ix_tup (pv 0) pe_int (fun _ _ => rfl)) (pe_glob (v := .int _) (by rfl) g_MOST_SMALL_BOUND ⟨_, rfl⟩) (nomark _)) (pss_one (ps_raise rfl (takes_of rfl rfl rfl rfl) (pmk_own PySem.F.excBase_ValueError x_NoAsk g_NoAsk k_NoAsk (raises_own e_NoAsk y_NoAsk) (by rfl)))) pss_nil)), ?_⟩
  refine ⟨_, rfl, r, _, 2, .int m, rfl, rfl, h1, rfl, _, _, rfl, rfl, _, rfl, ifD (fun z => ?_) (fun z => ?_)⟩
  · exact e z
  · exact q (by omega)
end
end Tw


namespace Tw
open PySem PySem.Spec PyProof.Rows L2
abbrev s_read_many : Stmt := topS 47
theorem sc_read_many : FnScope ["word", "many"] ["word"] (defScope s_read_many) := ⟨rfl, rfl, rfl, by decide +kernel, rfl, by decide +kernel, by decide +kernel⟩
abbrev s_read_steps : Stmt := topS 48
theorem sc_read_steps : FnScope ["word", "steps"] ["word"] (defScope s_read_steps) := ⟨rfl, rfl, rfl, by decide +kernel, rfl, by decide +kernel, by decide +kernel⟩
abbrev s_tell_rule : Stmt := topS 57
theorem sc_tell_rule : FnScope ["desk", "numbers"] ["desk", "numbers"] (defScope s_tell_rule) := ⟨rfl, rfl, rfl, by decide +kernel, rfl, by decide +kernel, by decide +kernel⟩
abbrev s_tell_row : Stmt := topS 59
theorem sc_tell_row : FnScope ["desk", "numbers", "start", "many", "number"] ["desk", "numbers"] (defScope s_tell_row) := ⟨rfl, rfl, rfl, by decide +kernel, rfl, by decide +kernel, by decide +kernel⟩
abbrev s_tell_jump : Stmt := topS 60
theorem sc_tell_jump : FnScope ["desk", "numbers", "start", "steps"] ["desk", "numbers"] (defScope s_tell_jump) := ⟨rfl, rfl, rfl, by decide +kernel, rfl, by decide +kernel, by decide +kernel⟩
section
variable {P : Program} {w : World} {K : PySem.W.Frag} {mg : Str → Option Value} {base : Heap}
theorem ok_read_many {CA P1 P2 : Addr} {tM : Tok} (D : Top K mg "read_many" s_read_many ["word"]) (h_read_number : Has P w K mg base (L2.CX P w) 3 "read_number" ["word"] (sp1 (pRdNum P1 P2))) (g_MOST_NUMBERS : mg "MOST_NUMBERS" = some (.int 60 tM))
    (x_NoAsk : PySem.W.excIn K CA [.type "ValueError", .type "Exception", .type "BaseException", .type "object"] "ValueError.__new__" = true) (g_NoAsk : mg "NoAsk" = some (.ref CA)) (k_NoAsk : PySem.W.keepIn K (.ref CA) = true) (e_NoAsk : PySem.W.subIn K (.ref CA) (.type "BaseException") = some true) (y_NoAsk : PySem.W.typeIn K (.ref CA) = some (.type "type")) :
    Has P w K mg base (L2.CX P w) 4 "read_many" ["word"] (sp1 (pRdMany P1 P2)) := by
  refine D.ok1X sc_read_many (fun f cdv A outer s H v1 Q E hr h => ?_)
  obtain ⟨n, rfl, n1, n2, hT1, hT2, q⟩ := h
  refine ⟨_, (pss_cons (ps_set (i := 1) sc_read_many.nd rfl (.inl rfl) (pe_own h_read_number (hr.mono (by decide)) (passes_call (takes_of rfl rfl rfl rfl) (fun _ _ _ _ z => z)) (pa_cons (pv 0) pa_nil)))
 (pss_cons (ps_if (PW.pt (pw_or (pt_cmpR op_lt (pv 1) pe_int (nomark _)) (pw_or1 (pt_cmpR op_gt (pv 1) (pe_glob (v := .int _) (by rfl) g_MOST_NUMBERS ⟨_, rfl⟩) (nomark _))))) (pss_one (ps_raise rfl (takes_of rfl rfl rfl rfl) (pmk_own PySem.F.excBase_ValueError x_NoAsk g_NoAsk k_NoAsk (raises_own e_NoAsk y_NoAsk) (by rfl)))) pss_nil)
 (pss_one (ps_ret (pv 1))))), ?_⟩
  have ln : (TL.numL n).length ≤ 19 := Nat.le_trans (TL.numL_len (k := 2) (by decide) (by omega)) (by decide)
  refine ⟨_, rfl, _, rfl, n, rfl, ln, hT1, hT2, fun H1 g1 => ?_⟩
  refine ⟨_, rfl, _, _, rfl, rfl, _, rfl, ifF (decide_eq_false (by omega)) ?_⟩
  refine ⟨_, rfl, _, _, rfl, rfl, _, rfl, ifF (decide_eq_false (by omega)) ?_⟩
  exact ⟨_, rfl, q H1 g1⟩
theorem ok_read_steps {CA P1 P2 : Addr} (D : Top K mg "read_steps" s_read_steps ["word"]) (h_read_number : Has P w K mg base (L2.CX P w) 3 "read_number" ["word"] (sp1 (pRdNum P1 P2)))
    (x_NoAsk : PySem.W.excIn K CA [.type "ValueError", .type "Exception", .type "BaseException", .type "object"] "ValueError.__new__" = true) (g_NoAsk : mg "NoAsk" = some (.ref CA)) (k_NoAsk : PySem.W.keepIn K (.ref CA) = true) (e_NoAsk : PySem.W.subIn K (.ref CA) (.type "BaseException") = some true) (y_NoAsk : PySem.W.typeIn K (.ref CA) = some (.type "type")) :
    Has P w K mg base (L2.CX P w) 4 "read_steps" ["word"] (sp1 (pRdSteps P1 P2)) := by
  refine D.ok1X sc_read_steps (fun f cdv A outer s H v1 Q E hr h => ?_)
  obtain ⟨n, rfl, ln, hT1, hT2, q⟩ := h
  refine ⟨_, (pss_cons (ps_if (pt_not (pt_val (pe_m1 PySem.F.slot_str_startswith PySem.F.type_str_startswith mt_startswith (pv 0) pe_str))) (pss_one (ps_ret (pe_own h_read_number (hr.mono (by decide)) (passes_call (takes_of rfl rfl rfl rfl) (fun _ _ _ _ z => z)) (pa_cons (pv 0) pa_nil)))) pss_nil)
 (pss_cons (ps_set (i := 1) sc_read_steps.nd rfl (.inl rfl) (pe_own h_read_number (hr.mono (by decide)) (passes_call (takes_of rfl rfl rfl rfl) (fun _ _ _ _ z => z)) (pa_cons (pe_slice sl_str (pv 0) (po_some pe_int) po_none) pa_nil)))
 (pss_cons (ps_if (pt_cmpR op_eq (pv 1) pe_int (nomark _)) (pss_one (ps_raise rfl (takes_of rfl rfl rfl rfl) (pmk_own PySem.F.excBase_ValueError x_NoAsk g_NoAsk k_NoAsk (raises_own e_NoAsk y_NoAsk) (by rfl)))) pss_nil)
 (pss_one (ps_ret (pe_un un_neg (pv 1))))))), ?_⟩
  have l19 : ∀ r : List Nat, r.length ≤ 19 → (SX.S (45 :: r)).length ≤ sizeLine := fun r h => s_len _ (by rw [List.length_cons]; omega)
  unfold stL
  by_cases c : n < 0
  · rw [if_pos c]
    have en : (-n).toNat = n.natAbs := by omega
    rw [en]
    refine ⟨_, rfl, ⟨_, rfl⟩, _, _, rfl, rfl, _, rfl, ifF (by rw [minus_yes]; rfl) ?_⟩
    refine ⟨_, rfl, _, rfl, _, rfl, l19 _ ln, ?_⟩
    rw [cut_one]
    refine ⟨_, rfl, n.natAbs, rfl, ln, hT1, hT2, fun H1 g1 => ?_⟩
    refine ⟨_, rfl, rfl, _, rfl, ifD (fun z => absurd (V.int.inj z) (by omega)) (fun _ => ?_)⟩
    refine ⟨_, rfl, _, rfl, ?_⟩
    have e : (-((n.natAbs : Nat) : Int)) = n := by omega
    have := q H1 g1
    rw [← e] at this
    exact this
  · rw [if_neg c]
    have en : n.toNat = n.natAbs := by omega
    rw [en]
    refine ⟨_, rfl, ⟨_, rfl⟩, _, _, rfl, rfl, _, rfl, ifT (by rw [num_no_minus]; rfl) ?_⟩
    refine ⟨_, rfl, _, rfl, n.natAbs, rfl, ln, hT1, hT2, fun H1 g1 => ?_⟩
    have e : ((n.natAbs : Nat) : Int) = n := by omega
    have := q H1 g1
    rw [← e] at this
    exact this
theorem ok_tell_rule {C CK P1 P2 : Addr} (D : Top K mg "tell_rule" s_tell_rule ["desk", "numbers"]) (T : DTx K mg C) (h_rule_shown : Has P w K mg base CX0 1 "rule_shown" ["rule"] (sp1 (pShown K))) :
    Has P w K mg base (L2.CX P w) 11 "tell_rule" ["desk", "numbers"] (sp2 (pTellRule C CK P1 P2)) := by
  refine D.ok2X sc_tell_rule (fun f cdv A outer s H v1 v2 Q E hr h => ?_)
  obtain ⟨p, u, k, l, t, pl, m, xs, rfl, hd, R, hT1, hT2, q⟩ := h
  refine ⟨_, (pss_one (ps_ret (pe_lst (pa_cons (pe_own h_rule_shown (hr.mono (by decide)) pass0 (pa_cons (pe_fld (pv 0) rfl) pa_nil)) pa_nil)))), ?_⟩
  obtain ⟨⟨dx, hp⟩, hu, hk⟩ := hd
  refine ⟨_, rfl, p, C, dx, _, _, rfl, hp, T.cl, T.nr, dkf_rule u k, ?_⟩
  refine ⟨_, rfl, u, t, pl, m, rfl, SqT.of hu, R, ?_⟩
  refine ⟨by show 1 ≤ sizeLine; decide, fun q1 nq1 => ?_⟩
  exact q _ q1 ((Grow.refl hT1 hT2).same (same_new nq1)) nq1 upd_same
theorem ok_tell_jump {C CK CN CB P1 P2 : Addr} (D : Top K mg "tell_jump" s_tell_jump ["desk", "numbers"]) (T : DTx K mg C) (h_jumped : Has P w K mg base (L2.CX P w) 5 "jumped" ["rule", "start", "steps"] (sp3 (pJump K CN CB))) (z_str : mg "str" = none) :
    Has P w K mg base (L2.CX P w) 11 "tell_jump" ["desk", "numbers"] (sp2 (pTellJump C CK P1 P2)) := by
  refine D.ok2X sc_tell_jump (fun f cdv A outer s H v1 v2 Q E hr h => ?_)
  obtain ⟨p, u, k, l, nl, t, pl, m, st, n, y, xs, rfl, rfl, hd, R, hn, s0, s1, hT1, hT2, y0, y1, hy, q⟩ := h
  refine ⟨_, (pss_cons (ps_asg (pv 1) (pg_unl rfl (pgs_cons (pg_name (i := 2) sc_tell_jump.nd rfl (.inl rfl)) (pgs_cons (pg_name (i := 3) sc_tell_jump.nd rfl (.inl rfl)) pgs_nil))))
 (pss_one (ps_ret (pe_lst (pa_cons (pe_callTy call_str_int (by rfl) z_str (by decide +kernel) (pa_cons (pe_own h_jumped (hr.mono (by decide)) (passes_call (takes_of rfl rfl rfl rfl) (fun _ _ _ _ z => z)) (pa_cons (pe_fld (pv 0) rfl) (pa_cons (pv 2) (pa_cons (pv 3) pa_nil)))) pa_nil)) pa_nil))))), ?_⟩
  obtain ⟨⟨dx, hp⟩, hu, hk⟩ := hd
  have b2 := R.b2
  refine ⟨_, rfl, nl, _, rfl, SqL.of hn, rfl, _, _, rfl, _, _, rfl, rfl, ?_⟩
  refine ⟨_, rfl, p, C, dx, _, _, rfl, hp, T.cl, T.nr, dkf_rule u k, ?_⟩
  refine ⟨_, rfl, _, rfl, _, _, _, rfl, u, t, pl, m, st, n, rfl, rfl, rfl, SqT.of hu, R, fun z => absurd ⟨s0, s1⟩ z, fun _ nn H' s2 => ?_, fun _ nn g H' y2 s2 hb => ?_, fun _ nn g => ?_⟩
  · rcases hy with ⟨_, e⟩ | ⟨e, _⟩
    · rw [← e]
      refine ⟨_, rfl, lg_small y0 (by omega), ?_⟩
      rw [str_num y0]
      refine ⟨by show 1 ≤ sizeLine; decide, fun q1 nq1 => ?_⟩
      exact q _ q1 (((Grow.refl hT1 hT2).same s2).same (same_new nq1)) (s2.free nq1) upd_same
    · omega
  · rcases hy with ⟨e, _⟩ | ⟨_, _, e⟩
    · omega
    · rw [e _ hb]
      refine ⟨_, rfl, lg_small y0 (by omega), ?_⟩
      rw [str_num y0]
      refine ⟨by show 1 ≤ sizeLine; decide, fun q1 nq1 => ?_⟩
      exact q _ q1 (((Grow.refl hT1 hT2).same s2).same (same_new nq1)) (s2.free nq1) upd_same
  · rcases hy with ⟨e, _⟩ | ⟨_, g2, _⟩
    · omega
    · exact absurd g2 g
theorem ok_tell_row {C CK CN P1 P2 : Addr} (D : Top K mg "tell_row" s_tell_row ["desk", "numbers"]) (T : DTx K mg C) (h_row_from : Has P w K mg base (L2.CX P w) 5 "row_from" ["rule", "start", "many"] (sp3 (pRowFrom K CN))) (z_str : mg "str" = none) :
    Has P w K mg base (L2.CX P w) 11 "tell_row" ["desk", "numbers"] (sp2 (pTellRow C CK P1 P2)) := by
  refine D.ok2X sc_tell_row (fun f cdv A outer s H v1 v2 Q E hr h => ?_)
  obtain ⟨p, u, k, l, nl, t, pl, m, st, n, xs, rfl, rfl, hd, R, hn, s0, s1, n1, n2, hT1, hT2, q⟩ := h
  refine ⟨_, (pss_cons (ps_asg (pv 1) (pg_unl rfl (pgs_cons (pg_name (i := 2) sc_tell_row.nd rfl (.inl rfl)) (pgs_cons (pg_name (i := 3) sc_tell_row.nd rfl (.inl rfl)) pgs_nil))))
 (pss_one (ps_ret (pe_lst (pa_cons (pe_join pe_str (pe_lc (own := [("number", 4)]) (by rfl) sc_tell_row.nd (pi_tup (pe_own h_row_from (hr.mono (by decide)) (passes_call (takes_of rfl rfl rfl rfl) (fun _ _ _ _ z => z)) (pa_cons (pe_fld (pv 0) rfl) (pa_cons (pv 2) (pa_cons (pv 3) pa_nil))))) (blkOk_by (own := [("number", 4)]) (N := ["desk", "numbers", "start", "many", "number"]) (sc := defScope s_tell_row) (by decide +kernel)) (fun _ _ _ _ _ => pg_name (i := 4) sc_tell_row.nd rfl (Or.inl rfl)) (fun _ _ _ _ _ => pts_nil) (fun _ _ _ _ _ => (pe_callTy call_str_int (by rfl) z_str (by decide +kernel) (pa_cons (pv 4) pa_nil))))) pa_nil))))), ?_⟩
  obtain ⟨⟨dx, hp⟩, hu, hk⟩ := hd
  have b2 := R.b2
  have m0 : 0 < m := by omega
  refine ⟨_, rfl, nl, _, rfl, SqL.of hn, rfl, _, _, rfl, _, _, rfl, rfl, ?_⟩
  refine ⟨⟨_, rfl⟩, _, rfl, p, C, dx, _, _, rfl, hp, T.cl, T.nr, dkf_rule u k, ?_⟩
  refine ⟨_, rfl, _, rfl, _, _, _, rfl, u, t, pl, m, st, n, rfl, rfl, rfl, SqT.of hu, R, by omega, by omega, fun _ _ H1 r s1' nr hr => ?_, fun z => absurd ⟨s0, s1⟩ z⟩
  have on := orb_num (t := t) (p := pl) m0 b2 ⟨s0, s1⟩ (n := n.toNat)
  have ol : (orb (stp t pl m) n.toNat st).length = n.toNat := orb_len _ _ _
  unfold Says rowL at q
  generalize orb (stp t pl m) n.toNat st = ys at hr on ol q
  refine ⟨r, rfl, ⟨_, SqT.of hr⟩, fun L nL => ?_⟩
  refine lc_tup (K := K) (a := r) (xs := ys.map V.int) (fun j H' => H' = upd H1 L (.lst ((((ys.take j).map fun z => TL.numL z.toNat).map SX.S).map V.str))) rfl ?_ ?_ ?_
  · rintro j H' _ rfl
    exact SqT.of ((same_new nL) _ _ hr)
  · rintro j x H' hx rfl
    obtain ⟨rfl, lj⟩ := vget hx
    have zb := on _ (by rw [List.getD_eq_getElem?_getD, List.getElem?_eq_getElem lj]; exact List.getElem_mem lj : ys.getD j 0 ∈ ys)
    have hz : ys[j]? = some (ys.getD j 0) := by rw [List.getD_eq_getElem?_getD, List.getElem?_eq_getElem lj]; rfl
    generalize ys.getD j 0 = z at zb hz ⊢
    refine ⟨rfl, yesX ?_⟩
    refine ⟨_, rfl, _, rfl, lg_small zb.1 (by omega), ?_⟩
    rw [str_num zb.1]
    refine ⟨_, upd_same, ?_, ?_⟩
    · exact szl (by rw [List.length_map, List.length_map, List.length_map, List.length_take]; omega)
    · rw [upd_upd, List.take_add_one, hz, List.map_append, List.map_append, List.map_append]
      rfl
  rintro H' rfl
  rw [show ys.take (ys.map V.int).length = ys by rw [List.length_map, List.take_length]]
  have sL := same_new (o := .lst (((ys.map fun z => TL.numL z.toNat).map SX.S).map V.str)) nL
  refine ⟨_, L, (ys.map fun z => TL.numL z.toNat).map SX.S, rfl, rfl, .inl (SqL.of upd_same), ?_, ?_⟩
  · rw [sumD]
    have := totD_le (c := 13) fun x hx => (on x hx).2.2
    rw [ol] at this
    omega
  have eb : Str.ofString " " = SX.S [32] := by decide
  rw [eb, SX.join_S]
  refine ⟨by show 1 ≤ sizeLine; decide, fun q1 nq1 => ?_⟩
  exact q _ q1 ((((Grow.refl hT1 hT2).same s1').same sL).same (same_new nq1)) (s1'.free (sL.free nq1)) upd_same
end
end Tw


namespace Tw
open PySem PySem.Spec PyProof.Rows L2
abbrev s_shown_or_none : Stmt := topS 53
theorem sc_shown_or_none : FnScope ["number"] ["number"] (defScope s_shown_or_none) := ⟨rfl, rfl, rfl, by decide +kernel, rfl, by decide +kernel, by decide +kernel⟩
abbrev s_do_seen : Stmt := topS 55
theorem sc_do_seen : FnScope ["desk", "numbers"] ["desk", "numbers"] (defScope s_do_seen) := ⟨rfl, rfl, rfl, by decide +kernel, rfl, by decide +kernel, by decide +kernel⟩
abbrev s_do_back : Stmt := topS 56
theorem sc_do_back : FnScope ["desk", "numbers"] ["desk", "numbers"] (defScope s_do_back) := ⟨rfl, rfl, rfl, by decide +kernel, rfl, by decide +kernel, by decide +kernel⟩
abbrev s_tell_fits : Stmt := topS 64
theorem sc_tell_fits : FnScope ["desk", "numbers", "fit", "least", "step"] ["desk", "numbers"] (defScope s_tell_fits) := ⟨rfl, rfl, rfl, by decide +kernel, rfl, by decide +kernel, by decide +kernel⟩
abbrev s_tell_guess : Stmt := topS 65
theorem sc_tell_guess : FnScope ["desk", "numbers"] ["desk", "numbers"] (defScope s_tell_guess) := ⟨rfl, rfl, rfl, by decide +kernel, rfl, by decide +kernel, by decide +kernel⟩
abbrev s_tell_settled : Stmt := topS 66
theorem sc_tell_settled : FnScope ["desk", "numbers", "row"] ["desk", "numbers"] (defScope s_tell_settled) := ⟨rfl, rfl, rfl, by decide +kernel, rfl, by decide +kernel, by decide +kernel⟩
section
variable {P : Program} {w : World} {K : PySem.W.Frag} {mg : Str → Option Value} {base : Heap}
theorem ok_shown_or_none (D : Top K mg "shown_or_none" s_shown_or_none ["number"]) (z_str : mg "str" = none) : Has P w K mg base CX0 1 "shown_or_none" ["number"] (sp1 pShowN) := by
  refine D.ok1 sc_shown_or_none (fun f cdv A outer s H v1 Q E hr h => ?_)
  obtain ⟨hv, q⟩ := h
  refine ⟨_, (pss_one (ps_ret (pe_ifExp (pt_cmpR op_isN (pv 0) pe_non (nomark _)) pe_str (pe_callTy call_str_int (by rfl) z_str (by decide +kernel) (pa_cons (pv 0) pa_nil))))), ?_⟩
  rcases hv with rfl | ⟨z, rfl, z0, z1⟩
  · refine ⟨_, rfl, rfl, _, rfl, ifT rfl ?_⟩
    have e := none_S
    show Q (.str (Str.ofString "none")) H
    rw [e]
    exact q
  · refine ⟨_, rfl, rfl, _, rfl, ifF rfl ?_⟩
    refine ⟨_, rfl, _, rfl, lg_small z0 z1, ?_⟩
    rw [str_num z0]
    exact q
theorem ok_do_seen {C CK CA CN CF : Addr} {tM : Tok} (D : Top K mg "do_seen" s_do_seen ["desk", "numbers"]) (T : DTx K mg C) (TK : KTx K mg CK) (h_row_now : HasM P w K mg base CX0 1 CK "row_now" ["self"] (sp1 (pRowNow CK))) (h_see : HasM P w K mg base (L2.CX P w) 8 CK "see" ["self", "number"] (sp2 (pSee CK CN CF))) (z_len : mg "len" = none) (g_MOST_NUMBERS : mg "MOST_NUMBERS" = some (.int 60 tM))
    (x_NoAsk : PySem.W.excIn K CA [.type "ValueError", .type "Exception", .type "BaseException", .type "object"] "ValueError.__new__" = true) (g_NoAsk : mg "NoAsk" = some (.ref CA)) (k_NoAsk : PySem.W.keepIn K (.ref CA) = true) (e_NoAsk : PySem.W.subIn K (.ref CA) (.type "BaseException") = some true) (y_NoAsk : PySem.W.typeIn K (.ref CA) = some (.type "type")) :
    Has P w K mg base (L2.CX P w) 11 "do_seen" ["desk", "numbers"] (sp2 (pDoSeen C CK CA CN CF)) := by
  refine D.ok2X sc_do_seen (fun f cdv A outer s H v1 v2 Q E hr h => ?_)
  obtain ⟨p, u, k, l, nl, t, pl, m, n, xs, rfl, rfl, hd, R, hn, xl, rg, eA, eN, eF, q⟩ := h
  have c_KeptRow := TK.cl
  refine ⟨_, (pss_cons (ps_if (pt_cmpR op_ge (pe_callB (id := "len") call_len_seq (by rfl) z_len (by decide +kernel) (pa_cons (pe_mth0 (pe_fld (pv 0) rfl) c_KeptRow h_row_now (hr.mono (by decide)) pass0) pa_nil)) (pe_glob (v := .int _) (by rfl) g_MOST_NUMBERS ⟨_, rfl⟩) (nomark _)) (pss_one (ps_raise rfl (takes_of rfl rfl rfl rfl) (pmk_own PySem.F.excBase_ValueError x_NoAsk g_NoAsk k_NoAsk (raises_own e_NoAsk y_NoAsk) (by rfl)))) pss_nil)
 (pss_cons (ps_expr (pe_mth (pe_fld (pv 0) rfl) c_KeptRow h_see (hr.mono (by decide)) (passes_call (takes_of rfl rfl rfl rfl) (fun _ _ _ _ z => z)) (pa_cons (pe_ix ix_list (pv 1) pe_int (fun _ _ => rfl)) pa_nil)))
 (pss_one (ps_ret (pe_lst pa_nil))))), ?_⟩
  obtain ⟨⟨dx, hp⟩, hu, ⟨dk, hk⟩, hl⟩ := id hd
  refine ⟨_, rfl, p, C, dx, _, _, rfl, hp, T.cl, T.nk, dkf_kept u k, k, dk, _, rfl, hk, kf_no m l (by decide +kernel) (by decide +kernel), _, rfl, k, l, m, xs, rfl, ⟨⟨dk, hk⟩, hl⟩, fun H1 q1 s1 nq1 hq1 => ?_⟩
  refine ⟨q1, _, rfl, .inr (SqT.of hq1), _, _, rfl, rfl, _, rfl, ifD (fun e => ?_) (fun e => ?_)⟩
  · rw [List.length_map] at e
    exact eA (by omega) _ s1
  · rw [List.length_map] at e
    have hd1 := hd.same s1
    obtain ⟨⟨dx1, hp1⟩, hu1, ⟨dk1, hk1⟩, hl1⟩ := id hd1
    refine ⟨_, rfl, p, C, dx1, _, _, rfl, hp1, T.cl, T.nk, dkf_kept u k, k, dk1, _, rfl, hk1, kf_no m l (by decide +kernel) (by decide +kernel), _, rfl, nl, _, 0, _, rfl, rfl, SqL.of (s1 _ _ hn), rfl, ?_⟩
    refine ⟨_, _, rfl, k, l, m, n, xs, rfl, rfl, ⟨⟨dk1, hk1⟩, hl1⟩, R.b1, R.b2, by omega, rg, fun z => eN (by omega) z _ s1, fun z z2 H2 s2 => eF (by omega) z z2 _ (s1.trans s2), fun z z2 H2 f2 K2 => ?_⟩
    refine ⟨by show 0 ≤ sizeLine; decide, fun q2 nq2 => ?_⟩
    have s3 := same_new (o := .lst []) nq2
    exact q (by omega) z z2 _ q2 (s1.frm.trans (f2.trans s3.frm)) ((hd1.frm f2 K2).same s3) (s1.free (f2.free K2.2 nq2)) upd_same
theorem ok_do_back {C CK CF : Addr} (D : Top K mg "do_back" s_do_back ["desk", "numbers"]) (T : DTx K mg C) (TK : KTx K mg CK) (h_take_back : HasM P w K mg base (L2.CX P w) 1 CK "take_back" ["self"] (sp1 (pTake CK CF))) :
    Has P w K mg base (L2.CX P w) 11 "do_back" ["desk", "numbers"] (sp2 (pDoBack C CK CF)) := by
  refine D.ok2X sc_do_back (fun f cdv A outer s H v1 v2 Q E hr h => ?_)
  obtain ⟨p, u, k, l, t, pl, m, xs, rfl, hd, xl, eF, q⟩ := h
  have c_KeptRow := TK.cl
  refine ⟨_, (pss_cons (ps_expr (pe_mth0 (pe_fld (pv 0) rfl) c_KeptRow h_take_back (hr.mono (by decide)) (passes_call (takes_of rfl rfl rfl rfl) (fun _ _ _ _ z => z))))
 (pss_one (ps_ret (pe_lst pa_nil)))), ?_⟩
  obtain ⟨⟨dx, hp⟩, hu, ⟨dk, hk⟩, hl⟩ := id hd
  refine ⟨_, rfl, p, C, dx, _, _, rfl, hp, T.cl, T.nk, dkf_kept u k, k, dk, _, rfl, hk, kf_no m l (by decide +kernel) (by decide +kernel), _, rfl, k, l, m, xs, rfl, ⟨⟨dk, hk⟩, hl⟩, by omega, eF, fun ne H2 f2 K2 => ?_⟩
  refine ⟨by show 0 ≤ sizeLine; decide, fun q2 nq2 => ?_⟩
  have s3 := same_new (o := .lst []) nq2
  exact q ne _ q2 (f2.trans s3.frm) ((hd.frm f2 K2).same s3) (f2.free K2.2 nq2) upd_same
theorem ok_tell_fits {C CK P1 P2 : Addr} (D : Top K mg "tell_fits" s_tell_fits ["desk", "numbers"]) (T : DTx K mg C) (TK : KTx K mg CK) (h_fit_now : HasM P w K mg base (L2.CX P w) 8 CK "fit_now" ["self"] (sp1 (pFitNow CK))) :
    Has P w K mg base (L2.CX P w) 11 "tell_fits" ["desk", "numbers"] (sp2 (pTellFits C CK P1 P2)) := by
  refine D.ok2X sc_tell_fits (fun f cdv A outer s H v1 v2 Q E hr h => ?_)
  obtain ⟨p, u, k, l, t, pl, m, xs, rfl, hd, R, xl, rg, ft, hT1, hT2, qa, qf⟩ := h
  have c_KeptRow := TK.cl
  refine ⟨_, (pss_cons (ps_set (i := 2) sc_tell_fits.nd rfl (.inl rfl) (pe_mth0 (pe_fld (pv 0) rfl) c_KeptRow h_fit_now (hr.mono (by decide)) (passes_call (takes_of rfl rfl rfl rfl) (fun _ _ _ _ z => z))))
 (pss_cons (ps_if (pt_cmpR op_isN (pv 2) pe_non (nomark _)) (pss_one (ps_ret (pe_lst (pa_cons pe_str pa_nil)))) pss_nil)
 (pss_cons (ps_asg (pv 2) (pg_tup rfl (pgs_cons (pg_name (i := 3) sc_tell_fits.nd rfl (.inl rfl)) (pgs_cons (pg_name (i := 4) sc_tell_fits.nd rfl (.inl rfl)) pgs_nil))))
 (pss_one (ps_ret (pe_lst (pa_cons (pe_joined (PJ.cons (pe_fmt (pv 3)) (PJ.cons pe_str (PJ.cons (pe_fmt (pv 4)) PJ.nil)))) pa_nil))))))), ?_⟩
  obtain ⟨⟨dx, hp⟩, hu, ⟨dk, hk⟩, hl⟩ := id hd
  have b2 := R.b2
  have ee : Str.empty = SX.S [] := by decide
  refine ⟨_, rfl, p, C, dx, _, _, rfl, hp, T.cl, T.nk, dkf_kept u k, k, dk, _, rfl, hk, kf_no m l (by decide +kernel) (by decide +kernel), _, rfl, k, l, m, xs, rfl, ⟨⟨dk, hk⟩, hl⟩, R.b1, R.b2, by omega, rg, fun H1 v s1 fv nv => ?_⟩
  have g1 := (Grow.refl hT1 hT2).same s1
  rcases fv with ⟨l2, rfl⟩ | ⟨l2, ⟨rfl, fo⟩ | ⟨q1, ll, st, rfl, hq1, fo⟩⟩
  · refine ⟨_, rfl, rfl, _, rfl, ifT rfl ?_⟩
    refine ⟨by show 1 ≤ sizeLine; decide, fun q2 nq2 => ?_⟩
    refine qa l2 _ q2 (g1.same (same_new nq2)) (s1.free nq2) ?_
    rw [upd_same, ← any_S]
  · exact absurd fo ft
  · refine ⟨_, rfl, rfl, _, rfl, ifF rfl ?_⟩
    have ls := fo.2
    have ll1 : ll ≤ 1000000000000 ∧ 0 ≤ ll ∧ st ≤ 1000000000000 ∧ 0 < st := by
      have := Int.le_of_dvd (by have := R.b1; omega) fo.2.1
      obtain ⟨a1, _, a2, a3, _⟩ := fo
      omega
    have k1 := numL13 ll1.1
    have k2 := numL13 ll1.2.2.1
    refine ⟨_, rfl, q1, _, rfl, SqT.of hq1, rfl, _, _, rfl, _, _, rfl, rfl, ?_⟩
    refine ⟨_, rfl, .inr ⟨_, rfl, lg_small ll1.2.1 ll1.1, ?_⟩⟩
    rw [str_num ll1.2.1, ee]
    refine ⟨_, rfl, by rw [SX.S_cat]; exact s_len _ (by rw [List.nil_append]; omega), ?_⟩
    rw [SX.S_cat, List.nil_append]
    refine ⟨_, rfl, by rw [blank_S, SX.S_cat]; exact s_len _ (by rw [List.length_append]; show _ + 1 ≤ 1000; omega), ?_⟩
    rw [blank_S, SX.S_cat]
    refine ⟨_, rfl, .inr ⟨_, rfl, lg_small (by omega) ll1.2.2.1, ?_⟩⟩
    rw [str_num (show 0 ≤ st by omega)]
    refine ⟨_, rfl, by rw [SX.S_cat]; exact s_len _ (by rw [List.length_append, List.length_append]; show _ + 1 + _ ≤ 1000; omega), ?_⟩
    rw [SX.S_cat]
    refine ⟨by show 1 ≤ sizeLine; decide, fun q2 nq2 => ?_⟩
    exact qf l2 ll st fo _ q2 (g1.same (same_new nq2)) (s1.free nq2) upd_same
theorem ok_tell_guess {C CK P1 P2 : Addr} (D : Top K mg "tell_guess" s_tell_guess ["desk", "numbers"]) (T : DTx K mg C) (TK : KTx K mg CK) (h_guess_now : HasM P w K mg base (L2.CX P w) 10 CK "guess_now" ["self"] (sp1 (pGuess CK))) (h_shown_or_none : Has P w K mg base CX0 1 "shown_or_none" ["number"] (sp1 pShowN)) :
    Has P w K mg base (L2.CX P w) 11 "tell_guess" ["desk", "numbers"] (sp2 (pTellGuess C CK P1 P2)) := by
  refine D.ok2X sc_tell_guess (fun f cdv A outer s H v1 v2 Q E hr h => ?_)
  obtain ⟨p, u, k, l, t, pl, m, xs, rfl, hd, R, xl, rg, ft, hT1, hT2, q⟩ := h
  have c_KeptRow := TK.cl
  refine ⟨_, (pss_one (ps_ret (pe_lst (pa_cons (pe_own h_shown_or_none (hr.mono (by decide)) pass0 (pa_cons (pe_mth0 (pe_fld (pv 0) rfl) c_KeptRow h_guess_now (hr.mono (by decide)) (passes_call (takes_of rfl rfl rfl rfl) (fun _ _ _ _ z => z))) pa_nil)) pa_nil)))), ?_⟩
  obtain ⟨⟨dx, hp⟩, hu, ⟨dk, hk⟩, hl⟩ := id hd
  have b2 := R.b2
  refine ⟨_, rfl, p, C, dx, _, _, rfl, hp, T.cl, T.nk, dkf_kept u k, k, dk, _, rfl, hk, kf_no m l (by decide +kernel) (by decide +kernel), _, rfl, k, l, m, xs, rfl, ⟨⟨dk, hk⟩, hl⟩, R.b1, R.b2, by omega, rg, ft, fun H1 v s1 gv => ?_⟩
  have hv : v = .non ∨ ∃ z, v = .int z ∧ 0 ≤ z ∧ z ≤ 1000000000000 := by
    rcases gv with ⟨_, e⟩ | ⟨_, ll, ss, fo, e⟩
    · exact .inl e
    · rw [e]
      unfold behV
      by_cases c : nxB m xs ll = nxB m xs (ll + ss)
      · rw [if_pos c]
        have := mod_bd (ll * xs.getD (xs.length - 1) 0 + plusOf m xs ll) (show 0 < m by have := R.b1; omega)
        exact .inr ⟨_, rfl, this.1, by unfold nxB; omega⟩
      · rw [if_neg c]
        exact .inl rfl
  refine ⟨_, rfl, hv, ?_⟩
  refine ⟨by show 1 ≤ sizeLine; decide, fun q2 nq2 => ?_⟩
  exact q v gv _ q2 (((Grow.refl hT1 hT2).same s1).same (same_new nq2)) (s1.free nq2) upd_same
theorem ok_tell_settled {C CK CN P1 P2 : Addr} (D : Top K mg "tell_settled" s_tell_settled ["desk", "numbers"]) (T : DTx K mg C) (TK : KTx K mg CK) (h_row_now : HasM P w K mg base CX0 1 CK "row_now" ["self"] (sp1 (pRowNow CK))) (h_settled_by : Has P w K mg base (L2.CX P w) 7 "settled_by" ["row", "bound"] (sp2 (pSettled K CN))) (h_shown_or_none : Has P w K mg base CX0 1 "shown_or_none" ["number"] (sp1 pShowN)) (z_len : mg "len" = none) :
    Has P w K mg base (L2.CX P w) 11 "tell_settled" ["desk", "numbers"] (sp2 (pTellSettled C CK P1 P2)) := by
  refine D.ok2X sc_tell_settled (fun f cdv A outer s H v1 v2 Q E hr h => ?_)
  obtain ⟨p, u, k, l, t, pl, m, xs, rfl, hd, R, xl, rg, hT1, hT2, qn, qs⟩ := h
  have c_KeptRow := TK.cl
  refine ⟨_, (pss_cons (ps_set (i := 2) sc_tell_settled.nd rfl (.inl rfl) (pe_mth0 (pe_fld (pv 0) rfl) c_KeptRow h_row_now (hr.mono (by decide)) pass0))
 (pss_cons (ps_if (pt_cmpR op_lt (pe_callB (id := "len") call_len_seq (by rfl) z_len (by decide +kernel) (pa_cons (pv 2) pa_nil)) pe_int (nomark _)) (pss_one (ps_ret (pe_lst (pa_cons pe_str pa_nil)))) pss_nil)
 (pss_one (ps_ret (pe_lst (pa_cons (pe_own h_shown_or_none (hr.mono (by decide)) pass0 (pa_cons (pe_own h_settled_by (hr.mono (by decide)) (passes_call (takes_of rfl rfl rfl rfl) (fun _ _ _ _ z => z)) (pa_cons (pv 2) (pa_cons (pe_ix ix_tup (pe_fld (pv 0) rfl) pe_int (fun _ _ => rfl)) pa_nil))) pa_nil)) pa_nil)))))), ?_⟩
  obtain ⟨⟨dx, hp⟩, hu, ⟨dk, hk⟩, hl⟩ := id hd
  refine ⟨_, rfl, p, C, dx, _, _, rfl, hp, T.cl, T.nk, dkf_kept u k, k, dk, _, rfl, hk, kf_no m l (by decide +kernel) (by decide +kernel), _, rfl, k, l, m, xs, rfl, ⟨⟨dk, hk⟩, hl⟩, fun H1 q1 s1 nq1 hq1 => ?_⟩
  have g1 := (Grow.refl hT1 hT2).same s1
  refine ⟨_, rfl, q1, _, rfl, .inr (SqT.of hq1), _, _, rfl, rfl, _, rfl, ifD (fun e => ?_) (fun e => ?_)⟩
  · rw [List.length_map] at e
    refine ⟨by show 1 ≤ sizeLine; decide, fun q2 nq2 => ?_⟩
    refine qn (by omega) _ q2 (g1.same (same_new nq2)) (s1.free nq2) ?_
    rw [upd_same, ← none_S]
  · rw [List.length_map] at e
    obtain ⟨⟨dx1, hp1⟩, hu1, ⟨dk1, hk1⟩, hl1⟩ := hd.same s1
    refine ⟨_, rfl, _, rfl, p, C, dx1, _, _, rfl, hp1, T.cl, T.nr, dkf_rule u k, u, _, 2, .int m, rfl, rfl, SqT.of hu1, rfl, _, _, rfl, q1, xs, m, rfl, rfl, SqT.of hq1, R.b1, R.b2, by omega, by omega, fun _ H2 v s2 sv => ?_, fun i bad => (bad.no rg).elim⟩
    have hv : v = .non ∨ ∃ z, v = .int z ∧ 0 ≤ z ∧ z ≤ 1000000000000 := by
      rcases sv with ⟨e, _⟩ | ⟨j, e, jl, _⟩
      · exact .inl e
      · exact .inr ⟨_, e, by omega, by omega⟩
    refine ⟨_, rfl, hv, ?_⟩
    refine ⟨by show 1 ≤ sizeLine; decide, fun q2 nq2 => ?_⟩
    exact qs (by omega) v sv _ q2 ((g1.same s2).same (same_new nq2)) (s1.free (s2.free nq2)) upd_same
end
end Tw


namespace Tw
open PySem PySem.Spec PyProof.Rows L2
abbrev s_tell_round : Stmt := topS 61
theorem sc_tell_round : FnScope ["desk", "numbers", "tail", "length"] ["desk", "numbers"] (defScope s_tell_round) := ⟨rfl, rfl, rfl, by decide +kernel, rfl, by decide +kernel, by decide +kernel⟩
abbrev s_tell_rounds : Stmt := topS 62
theorem sc_tell_rounds : FnScope ["desk", "numbers", "length", "many"] ["desk", "numbers"] (defScope s_tell_rounds) := ⟨rfl, rfl, rfl, by decide +kernel, rfl, by decide +kernel, by decide +kernel⟩
abbrev s_tell_one : Stmt := topS 63
theorem sc_tell_one : FnScope ["desk", "numbers"] ["desk", "numbers"] (defScope s_tell_one) := ⟨rfl, rfl, rfl, by decide +kernel, rfl, by decide +kernel, by decide +kernel⟩
section
variable {P : Program} {w : World} {K : PySem.W.Frag} {mg : Str → Option Value} {base : Heap}
theorem ok_tell_round {C CK CA CN P1 P2 : Addr} (D : Top K mg "tell_round" s_tell_round ["desk", "numbers"]) (T : DTx K mg C) (h_check_small : Has P w K mg base (L2.CX P w) 1 "check_small" ["rule"] (sp1 (pSmall K CA))) (h_round_from : Has P w K mg base (L2.CX P w) 6 "round_from" ["rule", "start"] (sp2 (pRound K CN))) :
    Has P w K mg base (L2.CX P w) 11 "tell_round" ["desk", "numbers"] (sp2 (pTellRound C CK CA CN P1 P2)) := by
  refine D.ok2X sc_tell_round (fun f cdv A outer s H v1 v2 Q E hr h => ?_)
  obtain ⟨p, u, k, l, nl, t, pl, m, n, xs, rfl, rfl, hd, R, hn, hT1, hT2, eA, eN, q⟩ := h
  refine ⟨_, (pss_cons (ps_expr (pe_own h_check_small (hr.mono (by decide)) (passes_call (takes_of rfl rfl rfl rfl) (fun _ _ _ _ z => z)) (pa_cons (pe_fld (pv 0) rfl) pa_nil)))
 (pss_cons (ps_asg (pe_own h_round_from (hr.mono (by decide)) (passes_call (takes_of rfl rfl rfl rfl) (fun _ _ _ _ z => z)) (pa_cons (pe_fld (pv 0) rfl) (pa_cons (pe_ix ix_list (pv 1) pe_int (fun _ _ => rfl)) pa_nil))) (pg_tup rfl (pgs_cons (pg_name (i := 2) sc_tell_round.nd rfl (.inl rfl)) (pgs_cons (pg_name (i := 3) sc_tell_round.nd rfl (.inl rfl)) pgs_nil))))
 (pss_one (ps_ret (pe_lst (pa_cons (pe_joined (PJ.cons (pe_fmt (pv 2)) (PJ.cons pe_str (PJ.cons (pe_fmt (pv 3)) PJ.nil)))) pa_nil)))))), ?_⟩
  obtain ⟨⟨dx, hp⟩, hu, hk⟩ := hd
  have b2 := R.b2
  have ee : Str.empty = SX.S [] := by decide
  refine ⟨_, rfl, p, C, dx, _, _, rfl, hp, T.cl, T.nr, dkf_rule u k, _, rfl, u, t, pl, m, rfl, SqT.of hu, fun mM => ?_, fun mM => eA mM⟩
  refine ⟨_, rfl, p, C, dx, _, _, rfl, hp, T.cl, T.nr, dkf_rule u k, _, rfl, nl, _, 0, _, rfl, rfl, SqL.of hn, rfl, ?_⟩
  refine ⟨_, _, rfl, u, t, pl, m, n, rfl, rfl, SqT.of hu, R, by omega, fun n0 n1 H1 q1 s1 nq1 hq1 => ?_, fun z => eN mM z⟩
  have bd := rnd_bd (t := t) (p := pl) (show 0 < m by omega) n0 n1
  have k1 := numL13 (z := rndT t pl m n) (by omega)
  have k2 := numL13 (z := rndL t pl m n) (by omega)
  refine ⟨q1, _, rfl, SqT.of hq1, rfl, _, _, rfl, _, _, rfl, rfl, ?_⟩
  refine ⟨_, rfl, .inr ⟨_, rfl, lg_small bd.1 (by omega), ?_⟩⟩
  rw [str_num bd.1, ee]
  refine ⟨_, rfl, by rw [SX.S_cat]; exact s_len _ (by rw [List.nil_append]; omega), ?_⟩
  rw [SX.S_cat, List.nil_append]
  refine ⟨_, rfl, by rw [blank_S, SX.S_cat]; exact s_len _ (by rw [List.length_append]; show _ + 1 ≤ 1000; omega), ?_⟩
  rw [blank_S, SX.S_cat]
  refine ⟨_, rfl, .inr ⟨_, rfl, lg_small bd.2.2.1 (by omega), ?_⟩⟩
  rw [str_num bd.2.2.1]
  refine ⟨_, rfl, by rw [SX.S_cat]; exact s_len _ (by rw [List.length_append, List.length_append]; show _ + 1 + _ ≤ 1000; omega), ?_⟩
  rw [SX.S_cat]
  refine ⟨by show 1 ≤ sizeLine; decide, fun q2 nq2 => ?_⟩
  exact q mM n0 n1 _ q2 (((Grow.refl hT1 hT2).same s1).same (same_new nq2)) (s1.free nq2) upd_same
theorem ok_tell_one {C CK P1 P2 : Addr} (D : Top K mg "tell_one" s_tell_one ["desk", "numbers"]) (T : DTx K mg C) (h_is_one_round : Has P w K mg base CX0 3 "is_one_round" ["rule"] (sp1 (pOneR K))) :
    Has P w K mg base (L2.CX P w) 11 "tell_one" ["desk", "numbers"] (sp2 (pTellOne C CK P1 P2)) := by
  refine D.ok2X sc_tell_one (fun f cdv A outer s H v1 v2 Q E hr h => ?_)
  obtain ⟨p, u, k, l, t, pl, m, xs, rfl, hd, R, hT1, hT2, q⟩ := h
  refine ⟨_, (pss_one (ps_ret (pe_lst (pa_cons (pe_ifExp (pt_val (pe_own h_is_one_round (hr.mono (by decide)) pass0 (pa_cons (pe_fld (pv 0) rfl) pa_nil))) pe_str pe_str) pa_nil)))), ?_⟩
  obtain ⟨⟨dx, hp⟩, hu, hk⟩ := hd
  refine ⟨_, rfl, p, C, dx, _, _, rfl, hp, T.cl, T.nr, dkf_rule u k, _, rfl, u, t, pl, m, rfl, SqT.of hu, R, fun b hb => ?_⟩
  have qb := q b hb
  cases b with
  | true =>
    refine ⟨_, rfl, ifT rfl ?_⟩
    refine ⟨by show 1 ≤ sizeLine; decide, fun q2 nq2 => ?_⟩
    refine qb _ q2 ((Grow.refl hT1 hT2).same (same_new nq2)) nq2 ?_
    rw [upd_same, if_pos rfl, ← yes_S]
  | false =>
    refine ⟨_, rfl, ifF rfl ?_⟩
    refine ⟨by show 1 ≤ sizeLine; decide, fun q2 nq2 => ?_⟩
    refine qb _ q2 ((Grow.refl hT1 hT2).same (same_new nq2)) nq2 ?_
    rw [upd_same, if_neg (fun z => by cases z), ← no_S]
theorem ok_tell_rounds {C CK CA P1 P2 : Addr} (D : Top K mg "tell_rounds" s_tell_rounds ["desk", "numbers"]) (T : DTx K mg C) (h_check_small : Has P w K mg base (L2.CX P w) 1 "check_small" ["rule"] (sp1 (pSmall K CA))) (h_all_rounds : Has P w K mg base CX0 6 "all_rounds" ["rule"] (sp1 (pAllR K))) :
    Has P w K mg base (L2.CX P w) 11 "tell_rounds" ["desk", "numbers"] (sp2 (pTellRounds C CK CA P1 P2)) := by
  refine D.ok2X sc_tell_rounds (fun f cdv A outer s H v1 v2 Q E hr h => ?_)
  obtain ⟨p, u, k, l, t, pl, m, xs, rfl, hd, R, hT1, hT2, eA, q⟩ := h
  refine ⟨_, (pss_cons (ps_expr (pe_own h_check_small (hr.mono (by decide)) (passes_call (takes_of rfl rfl rfl rfl) (fun _ _ _ _ z => z)) (pa_cons (pe_fld (pv 0) rfl) pa_nil)))
 (pss_one (ps_ret (pe_lc (own := [("length", 2), ("many", 3)]) (by rfl) sc_tell_rounds.nd (pi_tup (pe_own h_all_rounds (hr.mono (by decide)) pass0 (pa_cons (pe_fld (pv 0) rfl) pa_nil))) (blkOk_by (own := [("length", 2), ("many", 3)]) (N := ["desk", "numbers", "length", "many"]) (sc := defScope s_tell_rounds) (by decide +kernel)) (fun _ _ _ _ _ => tup_in (K := K) (n := 2) rfl rfl (pgs_cons (pg_name (i := 2) sc_tell_rounds.nd rfl (Or.inl rfl)) (pgs_cons (pg_name (i := 3) sc_tell_rounds.nd rfl (Or.inl rfl)) pgs_nil))) (fun _ _ _ _ _ => pts_nil) (fun _ _ _ _ _ => (pe_joined (PJ.cons (pe_fmt (pv 2)) (PJ.cons pe_str (PJ.cons (pe_fmt (pv 3)) PJ.nil))))))))), ?_⟩
  obtain ⟨⟨dx, hp⟩, hu, hk⟩ := hd
  have b2 := R.b2
  have m0 : 0 < m := by have := R.b1; omega
  have ee : Str.empty = SX.S [] := by decide
  refine ⟨_, rfl, p, C, dx, _, _, rfl, hp, T.cl, T.nr, dkf_rule u k, _, rfl, u, t, pl, m, rfl, SqT.of hu, fun mM => ?_, fun mM => eA mM⟩
  refine ⟨_, rfl, p, C, dx, _, _, rfl, hp, T.cl, T.nr, dkf_rule u k, _, rfl, u, t, pl, m, rfl, SqT.of hu, R, mM, fun H1 q1 ps s1 nq1 tp rd => ?_⟩
  have short := rds_short m0 rd
  refine ⟨q1, rfl, ⟨_, SqT.of tp.1⟩, fun L nL => ?_⟩
  refine lc_tup (K := K) (a := q1) (xs := ps.map fun z => V.ref z.1) (te := fun σ H Q => tJs [tFmt (tVar 2), tC (V.str (Str.ofString " ")), tFmt (tVar 3)] Str.empty σ H fun out H1 => Q (V.str out) H1) (fun j H' => H' = upd H1 L (.lst ((pairsS ((ps.map (·.2)).take j)).map V.str))) rfl ?_ ?_ ?_
  · rintro j H' _ rfl
    exact SqT.of ((same_new nL) _ _ tp.1)
  · rintro j x H' hj rfl
    rw [List.getElem?_map] at hj
    cases ez : ps[j]? with
    | none => rw [ez] at hj; cases hj
    | some z =>
      rw [ez] at hj
      cases hj
      have zm : z ∈ ps := List.mem_iff_getElem?.mpr ⟨j, ez⟩
      have jl : j < ps.length := (List.getElem?_eq_some_iff.mp ez).1
      have bd := rds_bd m0 rd (z := z.2) (List.mem_map.mpr ⟨z, zm, rfl⟩)
      have k1 := numL13 (z := z.2.1) (by omega)
      have k2 := numL13 (z := z.2.2) (by omega)
      refine ⟨z.1, _, rfl, SqT.of ((same_new nL) _ _ (tp.2 z zm)), rfl, _, _, rfl, _, _, rfl, rfl, rfl, yesX ?_⟩
      refine ⟨_, rfl, .inr ⟨_, rfl, lg_small bd.1.1 (by omega), ?_⟩⟩
      rw [str_num bd.1.1, ee]
      refine ⟨_, rfl, by rw [SX.S_cat]; exact s_len _ (by rw [List.nil_append]; omega), ?_⟩
      rw [SX.S_cat, List.nil_append]
      refine ⟨_, rfl, by rw [blank_S, SX.S_cat]; exact s_len _ (by rw [List.length_append]; show _ + 1 ≤ 1000; omega), ?_⟩
      rw [blank_S, SX.S_cat]
      refine ⟨_, rfl, .inr ⟨_, rfl, lg_small bd.2.1 (by omega), ?_⟩⟩
      rw [str_num bd.2.1]
      refine ⟨_, rfl, by rw [SX.S_cat]; exact s_len _ (by rw [List.length_append, List.length_append]; show _ + 1 + _ ≤ 1000; omega), ?_⟩
      rw [SX.S_cat]
      rw [List.length_map] at short
      refine ⟨_, upd_same, szl (by unfold pairsS; rw [List.length_map, List.length_map, List.length_take, List.length_map]; omega), ?_⟩
      rw [upd_upd, List.take_add_one, List.getElem?_map, ez]
      unfold pairsS
      rw [List.map_append, List.map_append]
      rfl
  · rintro H' rfl
    rw [show (ps.map (·.2)).take (ps.map fun z => V.ref z.1).length = ps.map (·.2) by rw [List.length_map, ← List.length_map (f := (·.2)) (as := ps), List.take_length]]
    have sL := same_new (o := .lst ((pairsS (ps.map (·.2))).map V.str)) nL
    exact q mM _ L _ (((Grow.refl hT1 hT2).same s1).same sL) (s1.free nL) rd upd_same
end
end Tw


namespace Tw
open PySem PySem.Spec PyProof.Rows L2
abbrev s_text : Stmt := topS 82
theorem sc_text : FnScope ["number"] ["number"] (defScope s_text) := ⟨rfl, rfl, rfl, by decide +kernel, rfl, by decide +kernel, by decide +kernel⟩
abbrev s_of_row : Stmt := topS 83
theorem sc_of_row : FnScope ["way", "row", "bound"] ["way", "row", "bound"] (defScope s_of_row) := ⟨rfl, rfl, rfl, by decide +kernel, rfl, by decide +kernel, by decide +kernel⟩
abbrev s_question : Stmt := topS 84
theorem sc_question : FnScope ["seed", "rule", "row", "start", "way", "many", "steps", "pair"] ["seed", "rule", "row"] (defScope s_question) := ⟨rfl, rfl, rfl, by decide +kernel, rfl, by decide +kernel, by decide +kernel⟩
section
variable {P : Program} {w : World} {K : PySem.W.Frag} {mg : Str → Option Value} {base : Heap}
theorem ok_text (D : Top K mg "_law_text" s_text ["number"]) : Has P w K mg base CX0 1 "_law_text" ["number"] (sp1 pText) := by
  refine D.ok1 sc_text (fun f cdv A outer s H v1 Q E hr h => ?_)
  obtain ⟨hv, q⟩ := h
  refine ⟨_, (pss_cons (ps_if (pt_cmpR op_isN (pv 0) pe_non (nomark _)) (pss_one (ps_ret pe_str)) pss_nil)
 (pss_one (ps_ret (pe_joined1 (pe_fmt (pv 0)))))), ?_⟩
  rcases hv with rfl | ⟨z, rfl, z0, z1⟩
  · refine ⟨_, rfl, rfl, _, rfl, ifT rfl ?_⟩
    rw [show vL .non = noneL from rfl, ← none_S] at q
    exact q
  · refine ⟨_, rfl, rfl, _, rfl, ifF rfl ?_⟩
    refine ⟨_, rfl, .inr ⟨_, rfl, lg_small z0 (by omega), ?_⟩⟩
    rw [str_num z0]
    exact q
theorem ok_of_row {CN CF : Addr} (D : Top K mg "_law_of_row" s_of_row ["way", "row", "bound"]) (h_text : Has P w K mg base CX0 1 "_law_text" ["number"] (sp1 pText)) (h_joined : Has P w K mg base CX0 1 "_law_joined" ["numbers"] (sp1 (pJoinT K)))
    (h_times_that_fit : Has P w K mg base (L2.CX P w) 7 "times_that_fit" ["row", "bound"] (sp2 (pTimes K CN))) (h_number_behind : Has P w K mg base (L2.CX P w) 9 "number_behind" ["row", "bound"] (sp2 (pBehind K CN CF))) (h_settled_by : Has P w K mg base (L2.CX P w) 7 "settled_by" ["row", "bound"] (sp2 (pSettled K CN))) :
    Has P w K mg base CX0 10 "_law_of_row" ["way", "row", "bound"] (sp3 (pOfRow K)) := by
  refine D.ok3 sc_of_row (fun f cdv A outer s H v1 v2 v3 Q E hr h => ?_)
  obtain ⟨way, r, xs, m, rfl, rfl, rfl, w0, w1, hS, m1, mM, rg, l2, l60, ft, q⟩ := h
  refine ⟨_, (pss_cons (ps_if (pt_cmpR op_eq (pv 0) pe_int (nomark _)) (pss_one (ps_ret (pe_lst (pa_cons pe_str (pa_cons (pe_lst (pa_cons (pe_own h_joined (hr.mono (by decide)) pass0 (pa_cons (pe_own h_times_that_fit (hr.mono (by decide)) passL (pa_cons (pv 1) (pa_cons (pv 2) pa_nil))) pa_nil)) pa_nil)) pa_nil))))) pss_nil)
 (pss_cons (ps_if (pt_cmpR op_eq (pv 0) pe_int (nomark _)) (pss_one (ps_ret (pe_lst (pa_cons pe_str (pa_cons (pe_lst (pa_cons (pe_own h_text (hr.mono (by decide)) pass0 (pa_cons (pe_own h_number_behind (hr.mono (by decide)) passL (pa_cons (pv 1) (pa_cons (pv 2) pa_nil))) pa_nil)) pa_nil)) pa_nil))))) pss_nil)
 (pss_one (ps_ret (pe_lst (pa_cons pe_str (pa_cons (pe_lst (pa_cons (pe_own h_text (hr.mono (by decide)) pass0 (pa_cons (pe_own h_settled_by (hr.mono (by decide)) passL (pa_cons (pv 1) (pa_cons (pv 2) pa_nil))) pa_nil)) pa_nil)) pa_nil))))))), ?_⟩
  have m0 : 0 < m := by omega
  have efi : Str.ofString "fits" = SX.S fitsW := by decide
  have egu : Str.ofString "guess" = SX.S guessW := by decide
  have ese : Str.ofString "settled" = SX.S settledW := by decide
  have fin : ∀ (line : List Nat) (H1 : Hp) (due : List Nat), Same H H1 → DueW m xs line due → ∀ D, H1 D = none → ∀ L, (upd H1 D (.lst [.str (SX.S due)])) L = none → Q (.ref L) (upd (upd H1 D (.lst [.str (SX.S due)])) L (.lst [.str (SX.S line), .ref D])) := fun line H1 due s1 dw D nD L nL => by
    have t1 := same_new (o := .lst [.str (SX.S due)]) nD
    have t2 := same_new (o := .lst [.str (SX.S line), .ref D]) nL
    exact q _ L D line due (s1.trans (t1.trans t2)) (s1.free (t1.free nL)) (s1.free nD) upd_same (t2 _ _ upd_same) dw
  refine ⟨_, rfl, rfl, _, rfl, ifI (fun e => ?_) (fun e => ?_)⟩
  · rw [efi]
    refine ⟨_, rfl, _, rfl, _, _, rfl, r, xs, m, rfl, rfl, hS, m1, mM, by omega, fun _ H1 v s1 fv nv => ?_, fun i bad => (bad.no rg).elim⟩
    rcases fv with ⟨rfl, fo⟩ | ⟨q1, l, s, rfl, hq, F⟩
    · exact absurd fo ft
    obtain ⟨s0, sd, l0, l1, _⟩ := id F
    have sle := Int.le_of_dvd m0 sd
    refine ⟨_, rfl, q1, [l, s], rfl, SqT.of hq, by show 2 ≤ 60; decide, fun x hx => ?_, fun H2 s2 => ?_⟩
    · simp only [List.mem_cons, List.not_mem_nil, or_false] at hx
      omega
    rw [← pairL_row]
    refine ⟨by show 1 ≤ sizeLine; decide, fun D nD => ⟨by show 2 ≤ sizeLine; decide, fun L nL => ?_⟩⟩
    exact fin fitsW H2 _ (s1.trans s2) (.inl ⟨rfl, .inr ⟨l2, l, s, F, rfl⟩⟩) D nD L nL
  refine ⟨_, rfl, rfl, _, rfl, ifI (fun e => ?_) (fun e => ?_)⟩
  · rw [egu]
    refine ⟨_, rfl, _, rfl, _, _, rfl, r, xs, m, rfl, rfl, hS, m1, mM, l2, by omega, fun _ H1 l s s1 F => ?_, fun _ H1 s1 F => absurd F ft, fun i bad => (bad.no rg).elim⟩
    have gv : GssN m xs (behV m xs l s) := .inr ⟨l2, l, s, F, rfl⟩
    have nv : NumV (behV m xs l s) := by
      unfold behV
      by_cases c : nxB m xs l = nxB m xs (l + s)
      · rw [if_pos c]
        have := nxB_rng m0 xs l
        exact .inr ⟨_, rfl, this.1, by omega⟩
      · rw [if_neg c]
        exact .inl rfl
    generalize behV m xs l s = v at gv nv ⊢
    refine ⟨_, rfl, nv, ?_⟩
    refine ⟨by show 1 ≤ sizeLine; decide, fun D nD => ⟨by show 2 ≤ sizeLine; decide, fun L nL => ?_⟩⟩
    exact fin guessW H1 _ s1 (.inr (.inl ⟨rfl, v, gv, nv, rfl⟩)) D nD L nL
  · rw [ese]
    refine ⟨_, rfl, _, rfl, _, _, rfl, r, xs, m, rfl, rfl, hS, m1, mM, l2, by omega, fun _ H1 v s1 sv => ?_, fun i bad => (bad.no rg).elim⟩
    have nv : NumV v := by
      rcases sv with ⟨e, _⟩ | ⟨j, e, jl, _⟩
      · exact .inl e
      · exact .inr ⟨_, e, by omega, by omega⟩
    refine ⟨_, rfl, nv, ?_⟩
    refine ⟨by show 1 ≤ sizeLine; decide, fun D nD => ⟨by show 2 ≤ sizeLine; decide, fun L nL => ?_⟩⟩
    exact fin settledW H1 _ s1 (.inr (.inr ⟨rfl, v, .inr ⟨l2, sv⟩, nv, rfl⟩)) D nD L nL
theorem ok_question {CN CB : Addr} (D : Top K mg "_law_question" s_question ["seed", "rule", "row"]) (h_draw : Has P w K mg base CX0 1 "_law_draw" ["seed", "most"] (sp2 (pDrw 1))) (h_far : Has P w K mg base CX0 2 "_law_far" ["seed", "most"] (sp2 (pDrw 2))) (h_text : Has P w K mg base CX0 1 "_law_text" ["number"] (sp1 pText)) (h_joined : Has P w K mg base CX0 1 "_law_joined" ["numbers"] (sp1 (pJoinT K)))
    (h_of_row : Has P w K mg base CX0 10 "_law_of_row" ["way", "row", "bound"] (sp3 (pOfRow K))) (h_next_of : Has P w K mg base (L2.CX P w) 4 "next_of" ["rule", "number"] (sp2 (pNextOf K CN))) (h_row_from : Has P w K mg base (L2.CX P w) 5 "row_from" ["rule", "start", "many"] (sp3 (pRowFrom K CN)))
    (h_jumped : Has P w K mg base (L2.CX P w) 5 "jumped" ["rule", "start", "steps"] (sp3 (pJump K CN CB))) (h_round_from : Has P w K mg base (L2.CX P w) 6 "round_from" ["rule", "start"] (sp2 (pRound K CN))) (h_all_rounds : Has P w K mg base CX0 6 "all_rounds" ["rule"] (sp1 (pAllR K))) (h_is_one_round : Has P w K mg base CX0 3 "is_one_round" ["rule"] (sp1 (pOneR K))) (h_rule_shown : Has P w K mg base CX0 1 "rule_shown" ["rule"] (sp1 (pShown K)))
    (z_len : mg "len" = none) (z_tuple : mg "tuple" = none) (z_int : mg "int" = none) : Has P w K mg base CX0 11 "_law_question" ["seed", "rule", "row"] (sp3 pQuest) := by
  refine D.ok3 sc_question (fun f cdv A outer s H v1 v2 v3 Q E hr h => ?_)
  obtain ⟨d, r, rw, n, t, pl, m, xs, rfl, rfl, rfl, hD, hn, hru, R, hrw, nrd, rg, ft, xl, q⟩ := h
  refine ⟨_, (pss_cons (ps_set (i := 3) sc_question.nd rfl (.inl rfl) (pe_own h_far (hr.mono (by decide)) pass0 (pa_cons (pv 0) (pa_cons (pe_ix ix_tup (pv 1) pe_int (fun _ _ => rfl)) pa_nil))))
 (pss_cons (ps_set (i := 4) sc_question.nd rfl (.inl rfl) (pe_own h_draw (hr.mono (by decide)) pass0 (pa_cons (pv 0) (pa_cons pe_int pa_nil))))
 (C8.pss_cut (ps_if (PW.pt (pw_and (pt_cmpR op_lt (pv 4) pe_int (nomark _)) (pw_and1 (pt_cmpR op_gt (pe_callB (id := "len") call_len_seq (by rfl) z_len (by decide +kernel) (pa_cons (pv 2) pa_nil)) pe_int (nomark _))))) (pss_one (ps_ret (pe_own h_of_row (hr.mono (by decide)) pass0 (pa_cons (pv 4) (pa_cons (pe_callTy call_tuple_of (by rfl) z_tuple (by decide +kernel) (pa_cons (pv 2) pa_nil)) (pa_cons (pe_ix ix_tup (pv 1) pe_int (fun _ _ => rfl)) pa_nil)))))) pss_nil)
 (pss_cons (ps_if (pt_cmpR op_eq (pv 4) pe_int (nomark _)) (pss_one (ps_ret (pe_lst (pa_cons (pe_joined (PJ.cons pe_str (PJ.cons (pe_fmt (pv 3)) PJ.nil))) (pa_cons (pe_lst (pa_cons (pe_own h_text (hr.mono (by decide)) pass0 (pa_cons (pe_own h_next_of (hr.mono (by decide)) passL (pa_cons (pv 1) (pa_cons (pv 3) pa_nil))) pa_nil)) pa_nil)) pa_nil))))) pss_nil)
 (pss_cons (ps_if (pt_cmpR op_eq (pv 4) pe_int (nomark _)) (pss_cons (ps_set (i := 5) sc_question.nd rfl (.inl rfl) (pe_op op_add pe_int (pe_own h_draw (hr.mono (by decide)) pass0 (pa_cons (pv 0) (pa_cons pe_int pa_nil)))))
 (pss_one (ps_ret (pe_lst (pa_cons (pe_joined (PJ.cons pe_str (PJ.cons (pe_fmt (pv 3)) (PJ.cons pe_str (PJ.cons (pe_fmt (pv 5)) PJ.nil))))) (pa_cons (pe_lst (pa_cons (pe_own h_joined (hr.mono (by decide)) pass0 (pa_cons (pe_own h_row_from (hr.mono (by decide)) passL (pa_cons (pv 1) (pa_cons (pv 3) (pa_cons (pv 5) pa_nil)))) pa_nil)) pa_nil)) pa_nil)))))) pss_nil)
 (pss_cons (ps_if (pt_cmpR op_eq (pv 4) pe_int (nomark _)) (pss_cons (ps_set (i := 6) sc_question.nd rfl (.inl rfl) (pe_op op_add (pe_op op_mulB (pe_own h_draw (hr.mono (by decide)) pass0 (pa_cons (pv 0) (pa_cons (pe_op op_pow pe_int pe_int) pa_nil))) (pe_op op_pow pe_int pe_int)) (pe_own h_draw (hr.mono (by decide)) pass0 (pa_cons (pv 0) (pa_cons (pe_op op_pow pe_int pe_int) pa_nil)))))
 (pss_one (ps_ret (pe_lst (pa_cons (pe_joined (PJ.cons pe_str (PJ.cons (pe_fmt (pv 3)) (PJ.cons pe_str (PJ.cons (pe_fmt (pv 6)) PJ.nil))))) (pa_cons (pe_lst (pa_cons (pe_own h_text (hr.mono (by decide)) pass0 (pa_cons (pe_own h_jumped (hr.mono (by decide)) passL (pa_cons (pv 1) (pa_cons (pv 3) (pa_cons (pv 6) pa_nil)))) pa_nil)) pa_nil)) pa_nil)))))) pss_nil)
 (C8.pss_cut (ps_if (PW.pt (pw_and (pt_cmpR op_eq (pv 4) pe_int (nomark _)) (pw_and1 (pt_cmpR op_le (pe_ix ix_tup (pv 1) pe_int (fun _ _ => rfl)) pe_int (nomark _))))) (pss_one (ps_ret (pe_lst (pa_cons (pe_joined (PJ.cons pe_str (PJ.cons (pe_fmt (pv 3)) PJ.nil))) (pa_cons (pe_lst (pa_cons (pe_own h_joined (hr.mono (by decide)) pass0 (pa_cons (pe_own h_round_from (hr.mono (by decide)) passL (pa_cons (pv 1) (pa_cons (pv 3) pa_nil))) pa_nil)) pa_nil)) pa_nil))))) pss_nil)
 (C8.pss_cut (ps_if (PW.pt (pw_and (pt_cmpR op_eq (pv 4) pe_int (nomark _)) (pw_and1 (pt_cmpR op_le (pe_ix ix_tup (pv 1) pe_int (fun _ _ => rfl)) pe_int (nomark _))))) (pss_one (ps_ret (pe_lst (pa_cons pe_str (pa_cons (pe_lc (own := [("pair", 7)]) (by rfl) sc_question.nd (pi_tup (pe_own h_all_rounds (hr.mono (by decide)) pass0 (pa_cons (pv 1) pa_nil))) (blkOk_by (own := [("pair", 7)]) (N := ["seed", "rule", "row", "start", "way", "many", "steps", "pair"]) (sc := defScope s_question) (by decide +kernel)) (fun _ _ _ _ _ => pg_name (i := 7) sc_question.nd rfl (Or.inl rfl)) (fun _ _ _ _ _ => pts_nil) (fun _ _ _ _ _ => (pe_own h_joined (hr.mono (by decide)) pass0 (pa_cons (pv 7) pa_nil)))) pa_nil))))) pss_nil)
 (pss_cons (ps_if (pt_cmpR op_eq (pv 4) pe_int (nomark _)) (pss_one (ps_ret (pe_lst (pa_cons pe_str (pa_cons (pe_lst (pa_cons (pe_ix ix_list (pe_lst (pa_cons pe_str (pa_cons pe_str pa_nil))) (pe_callTy call_int1 (by rfl) z_int (by decide +kernel) (pa_cons (pe_own h_is_one_round (hr.mono (by decide)) pass0 (pa_cons (pv 1) pa_nil)) pa_nil)) (fun _ _ => rfl)) pa_nil)) pa_nil))))) pss_nil)
 (pss_one (ps_ret (pe_lst (pa_cons pe_str (pa_cons (pe_lst (pa_cons (pe_own h_rule_shown (hr.mono (by decide)) pass0 (pa_cons (pv 1) pa_nil)) pa_nil)) pa_nil)))))))))))))), ?_⟩
  have m1 := R.b1
  have mM := R.b2
  have m0 : 0 < m := by omega
  have ee : Str.empty = SX.S [] := by decide
  have fin : ∀ (H3 : Hp) (line : List Nat) (zs : List Str), But d H H3 → Seed H3 d (n + 10) → QuesK t pl m xs line zs → ∀ D, H3 D = none → ∀ L, (upd H3 D (.lst (zs.map V.str))) L = none → Q (.ref L) (upd (upd H3 D (.lst (zs.map V.str))) L (.lst [.str (SX.S line), .ref D])) := fun H3 line zs B3 D3 qk D nD L nL => by
    have t1 := same_new (o := .lst (zs.map V.str)) nD
    have t2 := same_new (o := .lst [.str (SX.S line), .ref D]) nL
    exact q _ L D line zs (B3.trans (t1.trans t2).but) ((D3.same (t1.trans t2)).mono (by omega)) ((B3.trans t1.but).free ((D3.same t1).ne nL) nL) (B3.free (D3.ne nD) nD) upd_same (t2 _ _ upd_same) qk
  refine ⟨_, rfl, _, rfl, r, _, 2, .int m, rfl, rfl, SqT.of hru, rfl, _, _, rfl, d, n, m, rfl, rfl, m1, by omega, hD, by omega, fun H1 st B1 D1 a0 a1 => ?_⟩
  refine ⟨_, rfl, _, _, rfl, d, _, 9, rfl, rfl, by decide, by decide, D1, by omega, fun H2 way B2 D2 w0 w1 => ?_⟩
  have B12 := B1.trans B2
  have hr2 := B12 _ _ (hD.ne_tup hru) hru
  have hrw2 := B12 _ _ nrd hrw
  have kst := numL13 (z := st) (by omega)
  refine ⟨fun σ' H' => σ' = [some (.ref d), some (.ref r), some (.ref rw), some (.int st), some (.int way), none, none, none] ∧ H' = H2, ?_, ?_⟩
  · refine ⟨_, rfl, _, _, rfl, rfl, _, rfl, ifD (fun a => ?_) (fun a => ⟨rfl, rfl⟩)⟩
    refine ⟨_, rfl, rw, _, rfl, .inl (SqL.of hrw2), _, _, rfl, rfl, _, rfl, ifD (fun b => ?_) (fun b => ⟨rfl, rfl⟩)⟩
    rw [List.length_map] at b
    refine ⟨_, rfl, _, rfl, rw, _, rfl, .inl ⟨SqL.of hrw2, fun z nz => ?_⟩⟩
    have sz := same_new (o := .tup (xs.map V.int)) nz
    refine ⟨_, rfl, r, _, 2, .int m, rfl, rfl, SqT.of (sz _ _ hr2), rfl, _, _, _, rfl, way, z, xs, m, rfl, rfl, rfl, w0, by omega, SqT.of upd_same, m1, mM, rg, by omega, xl, ft, fun H4 L D line due s4 nL nD hL hD4 dw => ?_⟩
    have Bz := B12.trans sz.but
    have Dz := D2.same sz
    exact q _ L D line [SX.S due] (Bz.trans s4.but) ((Dz.same s4).mono (by omega)) (Bz.free (Dz.ne nL) nL) (Bz.free (Dz.ne nD) nD) hL hD4 (.inl ⟨due, dw, rfl⟩)
  rintro σ' H' ⟨rfl, rfl⟩
  refine ⟨_, rfl, rfl, _, rfl, ifI (fun e => ?_) (fun e => ?_)⟩
  · have nb := stp_rng (t := t) (p := pl) m0 st
    refine ⟨_, rfl, by rw [next_S]; exact s_len _ (by decide), ?_⟩
    rw [next_S]
    refine ⟨_, rfl, .inr ⟨st, rfl, lg_small a0 (by omega), ?_⟩⟩
    rw [str_num a0]
    refine ⟨_, rfl, by rw [SX.S_cat]; exact s_len _ (by rw [List.length_append]; show 5 + _ ≤ 1000; omega), ?_⟩
    rw [SX.S_cat, show nextW ++ [32] ++ TL.numL st.toNat = nextW ++ 32 :: TL.numL st.toNat by simp]
    refine ⟨_, rfl, _, rfl, _, _, rfl, r, t, pl, m, st, rfl, rfl, SqT.of hr2, R, fun _ _ => ?_, fun z => absurd ⟨a0, a1⟩ z⟩
    refine ⟨_, rfl, .inr ⟨_, rfl, nb.1, by omega⟩, ?_⟩
    refine ⟨by show 1 ≤ sizeLine; decide, fun D nD => ⟨by show 2 ≤ sizeLine; decide, fun L nL => ?_⟩⟩
    exact fin _ _ [SX.S (TL.numL (stp t pl m st).toNat)] B12 (D2.mono (by omega)) (.inr (.inl ⟨st, a0, a1, rfl, rfl⟩)) D nD L nL
  refine ⟨_, rfl, rfl, _, rfl, ifI (fun e => ?_) (fun e => ?_)⟩
  · refine ⟨_, rfl, _, _, rfl, d, _, 60, rfl, rfl, by decide, by decide, D2, by omega, fun H3 v B3 D3 v0 v1 => ?_⟩
    have hr3 := B3 _ _ (D2.ne_tup hr2) hr2
    have kmn := numL13 (z := 1 + v) (by omega)
    refine ⟨_, _, rfl, rfl, ?_⟩
    refine ⟨_, rfl, by rw [row_S]; exact s_len _ (by decide), ?_⟩
    rw [row_S]
    refine ⟨_, rfl, .inr ⟨st, rfl, lg_small a0 (by omega), ?_⟩⟩
    rw [str_num a0]
    refine ⟨_, rfl, by rw [SX.S_cat]; exact s_len _ (by rw [List.length_append]; show 4 + _ ≤ 1000; omega), ?_⟩
    rw [SX.S_cat]
    refine ⟨_, rfl, by rw [blank_S, SX.S_cat]; exact s_len _ (by rw [List.length_append, List.length_append]; show 4 + _ + 1 ≤ 1000; omega), ?_⟩
    rw [blank_S, SX.S_cat]
    refine ⟨_, rfl, .inr ⟨1 + v, rfl, lg_small (by omega) (by omega), ?_⟩⟩
    rw [str_num (show 0 ≤ 1 + v by omega)]
    refine ⟨_, rfl, by rw [SX.S_cat]; exact s_len _ (by rw [List.length_append, List.length_append, List.length_append]; show 4 + _ + 1 + _ ≤ 1000; omega), ?_⟩
    rw [SX.S_cat, three_S]
    refine ⟨_, rfl, _, rfl, _, rfl, _, _, _, rfl, r, t, pl, m, st, 1 + v, rfl, rfl, rfl, SqT.of hr3, R, by omega, by omega, fun _ _ H4 lr s4 nlr hlr => ?_, fun z => absurd ⟨a0, a1⟩ z⟩
    have on := orb_num (t := t) (p := pl) m0 mM ⟨a0, a1⟩ (n := (1 + v).toNat)
    have ol : (orb (stp t pl m) (1 + v).toNat st).length = (1 + v).toNat := orb_len _ _ _
    refine ⟨_, rfl, lr, _, rfl, SqT.of hlr, by rw [ol]; omega, fun x hx => ⟨(on x hx).1, by have := (on x hx).2.1; omega⟩, fun H5 s5 => ?_⟩
    refine ⟨by show 1 ≤ sizeLine; decide, fun D nD => ⟨by show 2 ≤ sizeLine; decide, fun L nL => ?_⟩⟩
    have s45 := s4.trans s5
    exact fin _ _ [SX.S (rowL (orb (stp t pl m) (1 + v).toNat st))] ((B12.trans B3).trans s45.but) ((D3.same s45).mono (by omega)) (.inr (.inr (.inl ⟨st, 1 + v, a0, a1, by omega, by omega, rfl, rfl⟩))) D nD L nL
  refine ⟨_, rfl, rfl, _, rfl, ifI (fun e => ?_) (fun e => ?_)⟩
  · have z9 : (10 : Int) ^ (9 : Int).toNat = 1000000000 := by decide
    refine ⟨_, rfl, _, _, rfl, rfl, ⟨by decide, by decide, by decide⟩, _, _, rfl, d, _, _, rfl, rfl, by decide, by decide, D2, by omega, fun H3 v B3 D3 v0 v1 => ?_⟩
    rw [z9] at v1
    refine ⟨_, _, rfl, rfl, ⟨by decide, by decide, by decide⟩, _, _, rfl, rfl, ⟨by unfold Big; omega, show Big 1000000000 from ⟨by decide, by decide⟩⟩, ?_⟩
    refine ⟨_, rfl, _, _, rfl, rfl, ⟨by decide, by decide, by decide⟩, _, _, rfl, d, _, _, rfl, rfl, by decide, by decide, D3, by omega, fun H4 u B4 D4 u0 u1 => ?_⟩
    rw [z9] at u1
    refine ⟨_, _, rfl, rfl, ?_⟩
    have B34 := (B12.trans B3).trans B4
    have hr4 := B4 _ _ (D3.ne_tup (B3 _ _ (D2.ne_tup hr2) hr2)) (B3 _ _ (D2.ne_tup hr2) hr2)
    have esp : v * 10 ^ (9 : Int).toNat + u = v * 1000000000 + u := by rw [z9]
    obtain ⟨sp, hsp⟩ : ∃ sp, sp = v * 10 ^ (9 : Int).toNat + u := ⟨_, rfl⟩
    rw [esp] at hsp
    have p0 : 0 ≤ sp := by omega
    have p1 : sp ≤ 1000000000000000000 := by omega
    have ksp : (TL.numL sp.toNat).length ≤ 19 := TL.numL_len (by decide) (by
      have : (10 : Nat) ^ 19 = 10000000000000000000 := by decide
      omega)
    have lsp : sp.natAbs.log2 < 1920 := by
      have h1 : sp.natAbs < 2 ^ 64 := by
        have : (2 : Nat) ^ 64 = 18446744073709551616 := by decide
        omega
      by_cases z : sp.natAbs = 0
      · rw [z]; decide
      · have := (Nat.log2_lt z).mpr h1
        omega
    have ja := ahd_rng (t := t) (p := pl) m0 sp.toNat st
    rw [← esp] at hsp
    refine ⟨_, rfl, by rw [jump_S]; exact s_len _ (by decide), ?_⟩
    rw [jump_S]
    refine ⟨_, rfl, .inr ⟨st, rfl, lg_small a0 (by omega), ?_⟩⟩
    rw [str_num a0]
    refine ⟨_, rfl, by rw [SX.S_cat]; exact s_len _ (by rw [List.length_append]; show 5 + _ ≤ 1000; omega), ?_⟩
    rw [SX.S_cat]
    refine ⟨_, rfl, by rw [blank_S, SX.S_cat]; exact s_len _ (by rw [List.length_append, List.length_append]; show 5 + _ + 1 ≤ 1000; omega), ?_⟩
    rw [blank_S, SX.S_cat]
    refine ⟨_, rfl, .inr ⟨sp, by rw [hsp], lsp, ?_⟩⟩
    rw [str_num p0]
    refine ⟨_, rfl, by rw [SX.S_cat]; exact s_len _ (by rw [List.length_append, List.length_append, List.length_append]; show 5 + _ + 1 + _ ≤ 1000; omega), ?_⟩
    rw [SX.S_cat, three_S]
    refine ⟨_, rfl, _, rfl, _, rfl, _, _, _, rfl, r, t, pl, m, st, sp, rfl, rfl, by rw [hsp], SqT.of hr4, R, fun z => absurd ⟨a0, a1⟩ z, fun _ nn H5 s5 => ?_, fun _ nn => by omega, fun _ nn => by omega⟩
    refine ⟨_, rfl, .inr ⟨_, rfl, ja.1, by omega⟩, ?_⟩
    refine ⟨by show 1 ≤ sizeLine; decide, fun D nD => ⟨by show 2 ≤ sizeLine; decide, fun L nL => ?_⟩⟩
    exact fin _ _ [SX.S (TL.numL (ahd t pl m sp.toNat st).toNat)] (B34.trans s5.but) ((D4.same s5).mono (by omega)) (.inr (.inr (.inr (.inl ⟨st, sp, a0, a1, p0, p1, rfl, rfl⟩)))) D nD L nL
  refine ⟨fun σ' H4 => σ' = [some (.ref d), some (.ref r), some (.ref rw), some (.int st), some (.int way), none, none, none] ∧ H4 = H', ?_, ?_⟩
  · refine ⟨_, rfl, rfl, _, rfl, ifI (fun a => ?_) (fun a => ⟨rfl, rfl⟩)⟩
    refine ⟨_, rfl, r, _, 2, .int m, rfl, rfl, SqT.of hr2, rfl, _, _, rfl, rfl, _, rfl, ifD (fun b => ?_) (fun b => ⟨rfl, rfl⟩)⟩
    have ero : Str.ofString "round " = SX.S (roundW ++ [32]) := by decide
    refine ⟨_, rfl, by rw [ee, ero, SX.S_cat]; exact s_len _ (by decide), ?_⟩
    rw [ee, ero, SX.S_cat, List.nil_append]
    refine ⟨_, rfl, .inr ⟨st, rfl, lg_small a0 (by omega), ?_⟩⟩
    rw [str_num a0]
    refine ⟨_, rfl, by rw [SX.S_cat]; exact s_len _ (by rw [List.length_append]; show 6 + _ ≤ 1000; omega), ?_⟩
    rw [SX.S_cat, show roundW ++ [32] ++ TL.numL st.toNat = roundW ++ 32 :: TL.numL st.toNat by simp]
    have bd := rnd_bd (t := t) (p := pl) m0 a0 a1
    refine ⟨_, rfl, _, rfl, _, _, rfl, r, t, pl, m, st, rfl, rfl, SqT.of hr2, R, by omega, fun _ _ H5 q5 s5 nq5 hq5 => ?_, fun z => absurd ⟨a0, a1⟩ z⟩
    refine ⟨_, rfl, q5, [rndT t pl m st, rndL t pl m st], rfl, SqT.of hq5, by show 2 ≤ 60; decide, fun x hx => ?_, fun H6 s6 => ?_⟩
    · simp only [List.mem_cons, List.not_mem_nil, or_false] at hx
      omega
    rw [← pairL_row]
    refine ⟨by show 1 ≤ sizeLine; decide, fun D nD => ⟨by show 2 ≤ sizeLine; decide, fun L nL => ?_⟩⟩
    have s56 := s5.trans s6
    exact fin _ _ [SX.S (pairL (rndT t pl m st) (rndL t pl m st))] (B12.trans s56.but) ((D2.same s56).mono (by omega)) (.inr (.inr (.inr (.inr (.inl ⟨st, a0, a1, b, rfl, rfl⟩))))) D nD L nL
  rintro σ' H4 ⟨rfl, rfl⟩
  refine ⟨fun σ' H5 => σ' = [some (.ref d), some (.ref r), some (.ref rw), some (.int st), some (.int way), none, none, none] ∧ H5 = H4, ?_, ?_⟩
  · refine ⟨_, rfl, rfl, _, rfl, ifI (fun a => ?_) (fun a => ⟨rfl, rfl⟩)⟩
    refine ⟨_, rfl, r, _, 2, .int m, rfl, rfl, SqT.of hr2, rfl, _, _, rfl, rfl, _, rfl, ifD (fun b => ?_) (fun b => ⟨rfl, rfl⟩)⟩
    have ers : Str.ofString "rounds" = SX.S roundsW := by decide
    rw [ers]
    refine ⟨_, rfl, _, rfl, r, t, pl, m, rfl, SqT.of hr2, R, b, fun H5 q5 ps s5 nq5 tp rd => ?_⟩
    have short := rds_short m0 rd
    rw [List.length_map] at short
    refine ⟨q5, rfl, ⟨_, SqT.of tp.1⟩, fun L nL => ?_⟩
    refine lc_tup (K := K) (a := q5) (xs := ps.map fun z => V.ref z.1) (fun j H6 => Frm L H5 H6 ∧ H6 L = some (.lst ((pairsS ((ps.map (·.2)).take j)).map V.str))) ⟨Frm.upd, upd_same⟩ ?_ ?_ ?_
    · rintro j H6 _ ⟨fr, _⟩
      exact SqT.of (fr _ _ (ne_free tp.1 nL) tp.1)
    · rintro j x H6 hj ⟨fr, hL⟩
      rw [List.getElem?_map] at hj
      cases ez : ps[j]? with
      | none => rw [ez] at hj; cases hj
      | some z =>
        rw [ez] at hj
        cases hj
        have zm : z ∈ ps := List.mem_iff_getElem?.mpr ⟨j, ez⟩
        have bd := rds_bd m0 rd (z := z.2) (List.mem_map.mpr ⟨z, zm, rfl⟩)
        refine ⟨rfl, ?_⟩
        refine ⟨_, rfl, _, rfl, z.1, [z.2.1, z.2.2], rfl, SqT.of (fr _ _ (ne_free (tp.2 z zm) nL) (tp.2 z zm)), by show 2 ≤ 60; decide, fun x hx => ?_, fun H7 s7 => ?_⟩
        · simp only [List.mem_cons, List.not_mem_nil, or_false] at hx
          omega
        rw [← pairL_row]
        refine ⟨_, s7 _ _ hL, szl (by unfold pairsS; rw [List.length_map, List.length_map, List.length_take, List.length_map]; omega), (fr.trans (fun b o nb e => s7 _ _ e)).trans Frm.upd, ?_⟩
        rw [upd_same, List.take_add_one, List.getElem?_map, ez]
        unfold pairsS
        rw [List.map_append, List.map_append]
        rfl
    · rintro H6 ⟨fr, hL⟩
      rw [show (ps.map (·.2)).take (ps.map fun z => V.ref z.1).length = ps.map (·.2) by rw [List.length_map, ← List.length_map (f := (·.2)) (as := ps), List.take_length]] at hL
      have s56 : Same H5 H6 := fun b o e => fr _ _ (ne_free e nL) e
      have s46 := s5.trans s56
      refine ⟨by show 2 ≤ sizeLine; decide, fun L2 nL2 => ?_⟩
      have t2 := same_new (o := .lst [.str (SX.S roundsW), .ref L]) nL2
      have nL4 := s5.free nL
      exact q _ L2 L _ (pairsS (ps.map (·.2))) (B12.trans (s46.trans t2).but) ((D2.same (s46.trans t2)).mono (by omega)) ((B12.trans s46.but).free ((D2.same s46).ne nL2) nL2) (B12.free (D2.ne nL4) nL4) upd_same (t2 _ _ hL) (.inr (.inr (.inr (.inr (.inr (.inl ⟨_, b, rd, rfl, rfl⟩))))))
  rintro σ' H5 ⟨rfl, rfl⟩
  refine ⟨_, rfl, rfl, _, rfl, ifI (fun e => ?_) (fun e => ?_)⟩
  · have eon : Str.ofString "one" = SX.S oneW := by decide
    rw [eon]
    refine ⟨by show 2 ≤ sizeLine; decide, fun l8 nl8 => ?_⟩
    have s8 := same_new (o := .lst [.str "no", .str "yes"]) nl8
    refine ⟨_, rfl, _, rfl, r, t, pl, m, rfl, SqT.of (s8 _ _ hr2), R, fun b hb => ?_⟩
    refine .inr ⟨_, rfl, ?_⟩
    refine ⟨l8, _, _, _, rfl, rfl, SqL.of upd_same, noyes b, ?_⟩
    refine ⟨by show 1 ≤ sizeLine; decide, fun D nD => ⟨by show 2 ≤ sizeLine; decide, fun L nL => ?_⟩⟩
    exact fin _ _ [SX.S (if b = true then yesL else noL)] (B12.trans s8.but) ((D2.same s8).mono (by omega)) (.inr (.inr (.inr (.inr (.inr (.inr (.inl ⟨b, hb, rfl, rfl⟩))))))) D nD L nL
  · have esh : Str.ofString "show" = SX.S showW := by decide
    rw [esh]
    refine ⟨_, rfl, _, rfl, r, t, pl, m, rfl, SqT.of hr2, R, ?_⟩
    refine ⟨by show 1 ≤ sizeLine; decide, fun D nD => ⟨by show 2 ≤ sizeLine; decide, fun L nL => ?_⟩⟩
    exact fin _ _ [SX.S (shw t pl m)] B12 (D2.mono (by omega)) (.inr (.inr (.inr (.inr (.inr (.inr (.inr ⟨rfl, rfl⟩))))))) D nD L nL
end
end Tw


namespace Tw
open PySem PySem.Spec PyProof.Rows L2
abbrev s_deed : Stmt := topS 85
theorem sc_deed : FnScope ["seed", "rule", "row", "way", "number"] ["seed", "rule", "row"] (defScope s_deed) := ⟨rfl, rfl, rfl, by decide +kernel, rfl, by decide +kernel, by decide +kernel⟩
section
variable {P : Program} {w : World} {K : PySem.W.Frag} {mg : Str → Option Value} {base : Heap}
theorem ok_deed (D : Top K mg "_law_deed" s_deed ["seed", "rule", "row"]) (h_draw : Has P w K mg base CX0 1 "_law_draw" ["seed", "most"] (sp2 (pDrw 1))) (h_far : Has P w K mg base CX0 2 "_law_far" ["seed", "most"] (sp2 (pDrw 2))) (h_rule : Has P w K mg base CX0 3 "_law_rule" ["seed", "most"] (sp2 pRuleD)) (h_line : Has P w K mg base CX0 1 "_law_line" ["rule"] (sp1 (pLineD K)))
    (h_next : Has P w K mg base CX0 1 "_law_next" ["rule", "number"] (sp2 (pNextD K))) : Has P w K mg base CX0 4 "_law_deed" ["seed", "rule", "row"] (sp3 pDeedO) := by
  refine D.ok3 sc_deed (fun f cdv A outer s H v1 v2 v3 Q E hr h => ?_)
  obtain ⟨d, r, rw, n, t, pl, m, xs, rfl, rfl, rfl, hD, hn, hru, R, hrw, nrd, rg, ob, xl, q⟩ := h
  refine ⟨_, (pss_cons (ps_set (i := 3) sc_deed.nd rfl (.inl rfl) (pe_own h_draw (hr.mono (by decide)) pass0 (pa_cons (pv 0) (pa_cons pe_int pa_nil))))
 (pss_cons (ps_if (pt_cmpR op_eq (pv 3) pe_int (nomark _)) (pss_cons (ps_set (i := 1) sc_deed.nd rfl (.inl rfl) (pe_own h_rule (hr.mono (by decide)) pass0 (pa_cons (pv 0) (pa_cons (pe_ix ix_list (pe_lst (pa_cons pe_int (pa_cons (pe_op op_pow pe_int pe_int) pa_nil))) (pe_own h_draw (hr.mono (by decide)) pass0 (pa_cons (pv 0) (pa_cons pe_int pa_nil))) (fun _ _ => rfl)) pa_nil))))
 (pss_one (ps_ret (pe_lst (pa_cons (pe_own h_line (hr.mono (by decide)) pass0 (pa_cons (pv 1) pa_nil)) (pa_cons (pv 1) (pa_cons (pe_lst pa_nil) pa_nil))))))) pss_nil)
 (C8.pss_cut (ps_if (PW.pt (pw_and (pt_cmpR op_eq (pv 3) pe_int (nomark _)) (pw_and1 (pt_cmpR (op_neD hr.units) (pv 2) (pe_lst pa_nil) (nomark _))))) (pss_one (ps_ret (pe_lst (pa_cons pe_str (pa_cons (pv 1) (pa_cons (pe_slice sl_list (pv 2) po_none (po_some (pe_un un_neg pe_int))) pa_nil)))))) pss_nil)
 (pss_cons (ps_set (i := 4) sc_deed.nd rfl (.inl rfl) (pe_own h_far (hr.mono (by decide)) pass0 (pa_cons (pv 0) (pa_cons (pe_ix ix_tup (pv 1) pe_int (fun _ _ => rfl)) pa_nil))))
 (C8.pss_cut (ps_if (pt_cmpR (op_neD hr.units) (pv 2) (pe_lst pa_nil) (nomark _)) (pss_one (ps_set (i := 4) sc_deed.nd rfl (.inl rfl) (pe_own h_next (hr.mono (by decide)) pass0 (pa_cons (pv 1) (pa_cons (pe_ix ix_list (pv 2) (pe_un un_neg pe_int) (fun _ _ => rfl)) pa_nil))))) pss_nil)
 (pss_one (ps_ret (pe_lst (pa_cons (pe_joined (PJ.cons pe_str (PJ.cons (pe_fmt (pv 4)) PJ.nil))) (pa_cons (pv 1) (pa_cons (pe_op op_cat (pv 2) (pe_lst (pa_cons (pv 4) pa_nil))) pa_nil))))))))))), ?_⟩
  have m0 := R.b1
  have m1 := R.b2
  have mp : 0 < m := by omega
  refine ⟨_, rfl, _, _, rfl, d, n, 6, rfl, rfl, by decide, by decide, hD, by omega, fun H1 way B1 D1 w0 w1 => ?_⟩
  have hr1 := B1 _ _ (hD.ne_tup hru) hru
  refine ⟨_, rfl, rfl, _, rfl, ifI (fun e => ?_) (fun e => ?_)⟩
  · refine ⟨_, rfl, _, _, rfl, rfl, ⟨by decide, by decide, by decide⟩, by show 2 ≤ sizeLine; decide, fun l1 nl1 => ?_⟩
    have s1 := same_new (o := .lst (([40, 10 ^ (12 : Int).toNat] : List Int).map V.int)) nl1
    have e12 : (10 : Int) ^ (12 : Int).toNat = 1000000000000 := by decide
    refine ⟨_, rfl, _, _, rfl, d, _, 2, rfl, rfl, by decide, by decide, D1.same s1, by omega, fun H2 v B2 D2 v0 v1 => ?_⟩
    obtain ⟨mn, hm, em⟩ := at_ints (ns := [40, 10 ^ (12 : Int).toNat]) v0 (by show v < 2; exact v1)
    have hl1 := B2 _ _ (D1.ne nl1) upd_same
    have bm : 1 ≤ mn ∧ mn ≤ 1000000000000 := by
      simp only [List.mem_cons, List.not_mem_nil, or_false, e12] at hm
      omega
    refine ⟨l1, _, v, _, rfl, rfl, SqL.of hl1, em, _, _, rfl, d, _, mn, rfl, rfl, by omega, by omega, D2, by omega, fun H3 r2 t2 p2 m2 B3 D3 nr2 hr2 R2 mm => ?_⟩
    have B5 := (B1.trans (s1.but.trans B2)).trans B3
    clear em hl1 hm s1
    refine ⟨_, rfl, _, rfl, r2, t2, p2, m2, rfl, SqT.of hr2, R2, _, rfl, by show 0 ≤ sizeLine; decide, fun rw' nrw' => ⟨by show 3 ≤ sizeLine; decide, fun L nL => ?_⟩⟩
    have t1 := same_new (o := .lst []) nrw'
    have t2' := same_new (o := .lst [.str (SX.S (headL ++ shw t2 p2 m2)), .ref r2, .ref rw']) nL
    have tt := t1.trans t2'
    exact q _ L r2 rw' _ t2 p2 m2 [] (B5.trans tt.but) ((D3.same tt).mono (by omega)) ((B5.trans t1.but).free ((D3.same t1).ne nL) nL) (B5.free (D3.ne nrw') nrw') upd_same (tt _ _ hr2) R2 (t2' _ _ upd_same) ⟨.inl ⟨rfl, rfl⟩, orbt_nil⟩
  refine ⟨fun σ' H' => σ' = [some (.ref d), some (.ref r), some (.ref rw), some (.int way), none] ∧ But d H H' ∧ Seed H' d (n + 1), ?_, ?_⟩
  · refine ⟨_, rfl, rfl, _, rfl, ifI (fun a => ?_) (fun a => ⟨rfl, B1, D1⟩)⟩
    refine ⟨_, rfl, by show 0 ≤ sizeLine; decide, fun q0 nq0 => ?_⟩
    have sq := same_new (o := .lst []) nq0
    have hrw1 := B1 _ _ nrd hrw
    have hsq := sq _ _ hrw1
    have Bq := B1.trans sq.but
    have Dq := D1.same sq
    have hrq := sq _ _ hr1
    refine ⟨.list (xs.map PyData.int), .list (([] : List Int).map PyData.int), .lst (SqL.of hsq) (dp_ints xs), .lst (SqL.of upd_same) (dp_ints []), shp_lints xs, shp_lints [], ?_⟩
    generalize upd H1 q0 (.lst []) = Hq at hsq Bq Dq hrq ⊢
    by_cases ex : xs = []
    · subst ex
      rw [eqv_self (shp_lints [])]
      exact ⟨_, rfl, ifF rfl ⟨rfl, Bq, Dq⟩⟩
    · rw [eqv_lints, decide_eq_false ex]
      refine ⟨_, rfl, ifT rfl ?_⟩
      have ebk : Str.ofString "back" = SX.S backW := by decide
      rw [ebk]
      refine ⟨_, rfl, _, rfl, _, rfl, _, rfl, rw, _, rfl, SqL.of hsq, fun rw' nrw' => ⟨by show 3 ≤ sizeLine; decide, fun L nL => ?_⟩⟩
      rw [cut_lastN] at nL ⊢
      have t1 := same_new (o := .lst (xs.dropLast.map V.int)) nrw'
      have t2' := same_new (o := .lst [.str (SX.S backW), .ref r, .ref rw']) nL
      have tt := t1.trans t2'
      exact q _ L r rw' _ t pl m xs.dropLast (Bq.trans tt.but) ((Dq.same tt).mono (by omega)) ((Bq.trans t1.but).free ((Dq.same t1).ne nL) nL) (Bq.free (Dq.ne nrw') nrw') upd_same (tt _ _ hrq) R (t2' _ _ upd_same) ⟨.inr ⟨rfl, rfl, rfl, .inl ⟨rfl, ex, rfl⟩⟩, orbt_drop ob⟩
  rintro σ' H2 ⟨rfl, B2, D2⟩
  have hr2 := B2 _ _ (hD.ne_tup hru) hru
  refine ⟨_, rfl, _, rfl, r, _, 2, .int m, rfl, rfl, SqT.of hr2, rfl, _, _, rfl, d, _, m, rfl, rfl, by omega, by omega, D2, by omega, fun H3 zf B3 D3 zf0 zf1 => ?_⟩
  have hr3 := B3 _ _ (D2.ne_tup hr2) hr2
  have B03 := B2.trans B3
  have hrw3 := B03 _ _ nrd hrw
  refine ⟨fun σ' H' => ∃ (x : Int), σ' = [some (.ref d), some (.ref r), some (.ref rw), some (.int way), some (.int x)] ∧ But d H H' ∧ Seed H' d (n + 10) ∧ 0 ≤ x ∧ x < m ∧ (xs = [] ∨ x = stp t pl m (xs.getD (xs.length - 1) 0)), ?_, ?_⟩
  · refine ⟨_, rfl, by show 0 ≤ sizeLine; decide, fun q0 nq0 => ?_⟩
    have sq := same_new (o := .lst []) nq0
    have hsq := sq _ _ hrw3
    have Bq := B03.trans sq.but
    have Dq := D3.same sq
    have hrq := sq _ _ hr3
    refine ⟨.list (xs.map PyData.int), .list (([] : List Int).map PyData.int), .lst (SqL.of hsq) (dp_ints xs), .lst (SqL.of upd_same) (dp_ints []), shp_lints xs, shp_lints [], ?_⟩
    generalize upd H3 q0 (.lst []) = Hq at hsq Bq Dq hrq ⊢
    by_cases ex : xs = []
    · subst ex
      rw [eqv_self (shp_lints [])]
      exact ⟨_, rfl, ifF rfl ⟨zf, rfl, Bq, Dq.mono (by omega), zf0, zf1, .inl rfl⟩⟩
    · rw [eqv_lints, decide_eq_false ex]
      refine ⟨_, rfl, ifT rfl ?_⟩
      have xp : 1 ≤ xs.length := by
        have := List.length_pos_iff.mpr ex
        omega
      have al := at_last (xs := xs) xp
      have ga := getD_rng mp rg (xs.length - 1)
      have sr := stp_rng (t := t) (p := pl) mp (xs.getD (xs.length - 1) 0)
      refine ⟨_, rfl, _, rfl, _, rfl, rw, _, -1, _, rfl, rfl, SqL.of hsq, al, _, _, rfl, r, t, pl, m, _, rfl, rfl, SqT.of hrq, R, ga.1, ga.2, ?_⟩
      exact ⟨_, rfl, Bq, Dq.mono (by omega), sr.1, sr.2, .inr rfl⟩
  rintro σ' H8 ⟨y, rfl, B8, D8, y0, y1, hy⟩
  have hrw8 := B8 _ _ nrd hrw
  have hr8 := B8 _ _ (hD.ne_tup hru) hru
  have ese : Str.empty ++ Str.ofString "seen " = SX.S (seenW ++ [32]) := by
    have e1 : Str.empty = SX.S [] := by decide
    have e2 : Str.ofString "seen " = SX.S (seenW ++ [32]) := by decide
    rw [e1, e2, SX.S_cat]
    rfl
  have ky := numL13 (z := y) (by omega)
  have ob' := orbt_snoc ob hy
  refine ⟨_, rfl, by rw [ese]; exact s_len _ (by decide), ?_⟩
  rw [ese]
  refine ⟨_, rfl, .inr ⟨y, rfl, lg_small y0 (by omega), ?_⟩⟩
  rw [str_num y0]
  refine ⟨_, rfl, by rw [SX.S_cat]; exact s_len _ (by rw [List.length_append]; show 5 + _ ≤ 1000; omega), ?_⟩
  rw [SX.S_cat, show seenW ++ [32] ++ TL.numL y.toNat = seenW ++ 32 :: TL.numL y.toNat by simp]
  refine ⟨_, rfl, _, rfl, _, rfl, by show 1 ≤ sizeLine; decide, fun l2 nl2 => ?_⟩
  have t1 := same_new (o := .lst [.int y]) nl2
  refine ⟨rw, l2, _, _, rfl, rfl, t1 _ _ hrw8, upd_same, ?_, fun rw' nrw' => ⟨by show 3 ≤ sizeLine; decide, fun L nL => ?_⟩⟩
  · rw [List.length_map]
    show xs.length + 1 ≤ sizeLine
    exact Nat.le_trans (show xs.length + 1 ≤ 60 by omega) (by decide)
  have t2 := same_new (o := .lst (xs.map V.int ++ [.int y])) nrw'
  have t3 := same_new (o := .lst [.str (SX.S (seenW ++ 32 :: TL.numL y.toNat)), .ref r, .ref rw']) nL
  have t12 := t1.trans t2
  have t13 := t12.trans t3
  refine q _ L r rw' _ t pl m (xs ++ [y]) (B8.trans t13.but) ((D8.same t13).mono (by omega)) ((B8.trans t12.but).free ((D8.same t12).ne nL) nL) ((B8.trans t1.but).free ((D8.same t1).ne nrw') nrw') upd_same (t13 _ _ hr8) R ?_ ⟨.inr ⟨rfl, rfl, rfl, .inr ⟨y, y0, y1, rfl, rfl, orbt_fits mp ob'⟩⟩, ob'⟩
  rw [List.map_append]
  exact t3 _ _ upd_same
end
end Tw


namespace Tw
open PySem PySem.Spec PyProof.Rows L2
abbrev s_law : Stmt := topS 86
theorem sc_law : FnScope ["script", "desks", "held", "cell", "rule", "desk", "k", "seed", "one", "other", "line", "due", "told", "more", "turn", "deed"] ["script"] (defScope s_law) := ⟨rfl, rfl, rfl, by decide +kernel, rfl, by decide +kernel, by decide +kernel⟩
def spLaw39 (K : PySem.W.Frag) (P1 P2 : Addr) : Sp := sp1 fun a H Q _ => ∃ (sa : Addr) (xs : List Int), a = .ref sa ∧ SqL K H sa (xs.map V.int) ∧ xs.length ≤ 63 ∧ GxR.TabG H P1 ∧ GxR.TabG H P2 ∧ ∀ H', Q (.bl true) H'
section
variable {P : Program} {w : World} {K : PySem.W.Frag} {mg : Str → Option Value} {base : Heap}
theorem ok_law {C CK P1 P2 dL dR dA fL : Addr} {fdL : FuncData} (F : Fun K "law" "law" s_law fL fdL) (T : DTx K mg C) (h_dinit : HasI P w K mg base CX0 3 C ["self"] (sp1 (pDinit C CK))) (h_ask : HasM P w K mg base (L2.CX P w) 12 C "ask" ["self", "line"] (sp2 (pAsk P w K mg base C CK P1 P2 dL dR dA)))
    (h_cells : Has P w K mg base CX0 1 "_law_cells" ["script", "many"] (sp2 (pCells K))) (h_seed : Has P w K mg base CX0 1 "_law_seed" ["cell"] (sp1 pSeed)) (h_rule : Has P w K mg base CX0 3 "_law_rule" ["seed", "most"] (sp2 pRuleD)) (h_line : Has P w K mg base CX0 1 "_law_line" ["rule"] (sp1 (pLineD K)))
    (h_deed : Has P w K mg base CX0 4 "_law_deed" ["seed", "rule", "row"] (sp3 pDeedO)) (h_question : Has P w K mg base CX0 11 "_law_question" ["seed", "rule", "row"] (sp3 pQuest))
    (aSeen : ∀ (t pl m n : Int) (xs : List Int), Rule t pl m → 0 ≤ n → n < m → xs.length < 60 → Rng m xs → Fits m (xs ++ [n]) → AskDo P w K mg base C CK P1 P2 dL dR dA t pl m xs (xs ++ [n]) (seenW ++ 32 :: TL.numL n.toNat))
    (aBack : ∀ (t pl m : Int) (xs : List Int), xs.length ≤ 60 → xs ≠ [] → AskDo P w K mg base C CK P1 P2 dL dR dA t pl m xs xs.dropLast backW)
    (aQ : ∀ (t pl m : Int) (xs : List Int) (line : List Nat) (zs : List Str), Rule t pl m → xs.length ≤ 60 → Rng m xs → Fits m xs → QuesK t pl m xs line zs → AskT P w K mg base C CK P1 P2 dL dR dA t pl m xs line zs)
    (z_range : mg "range" = none) (z_len : mg "len" = none) (z_enumerate : mg "enumerate" = none) : FnOk P w K mg base CX0 14 fL fdL ["script"] (spLaw39 K P1 P2) := by
  refine F.ok sc_law (fun vs H Q E h => by obtain ⟨_, rfl, _⟩ := h; rfl) (fun cdv A outer s H vs Q E hr h => ?_)
  obtain ⟨v1, rfl, sa, xs, rfl, hS, hl, hT1, hT2, q⟩ := h
  have c_Desk := T.cl
  have g_Desk := T.g
  refine ⟨_, (pss_cons (ps_set (i := 1) sc_law.nd rfl (.inl rfl) (pe_lst pa_nil))
 (pss_cons (ps_set (i := 2) sc_law.nd rfl (.inl rfl) (pe_lst pa_nil))
 (pss_cons (ps_for PassesOwn.never rfl (pi_list (pe_slice sl_list (pe_op op_cat (pe_own h_cells (hr.mono (by decide)) pass0 (pa_cons (pv 0) (pa_cons pe_int pa_nil))) (pe_lst (pa_cons pe_int pa_nil))) po_none (po_some pe_int))) (pg_name (i := 3) sc_law.nd rfl (.inl rfl)) (pss_cons (ps_set (i := 4) sc_law.nd rfl (.inl rfl) (pe_own h_rule (hr.mono (by decide)) pass0 (pa_cons (pe_own h_seed (hr.mono (by decide)) pass0 (pa_cons (pv 3) pa_nil)) (pa_cons (pe_ix ix_list (pe_lst (pa_cons pe_int (pa_cons (pe_op op_pow pe_int pe_int) pa_nil))) (pe_op op_mod (pe_callB (id := "len") call_len_seq (by rfl) z_len (by decide +kernel) (pa_cons (pv 1) pa_nil)) pe_int) (fun _ _ => rfl)) pa_nil))))
 (pss_cons (ps_set (i := 5) sc_law.nd rfl (.inl rfl) (pe_mkO0 h_dinit (hr.mono (by decide)) g_Desk pass0))
 (pss_cons (ps_expr (pe_mth (pv 5) c_Desk h_ask (hr.mono (by decide)) passL (pa_cons (pe_own h_line (hr.mono (by decide)) pass0 (pa_cons (pv 4) pa_nil)) pa_nil)))
 (pss_one (ps_expr (pe_bm PySem.F.plainAttrs_list PySem.F.slot_list_append PySem.F.type_list_append mt_append (pv 1) (pa_cons (pe_lst (pa_cons (pv 5) (pa_cons (pv 4) (pa_cons (pe_lst pa_nil) pa_nil)))) pa_nil))))))))
 (pss_cons (ps_for PassesOwn.never rfl (pi_enum (by rfl) z_enumerate (pa_cons (pe_own h_cells (hr.mono (by decide)) pass0 (pa_cons (pv 0) (pa_cons pe_int pa_nil))) pa_nil)) (pg_tup rfl (pgs_cons (pg_name (i := 6) sc_law.nd rfl (.inl rfl)) (pgs_cons (pg_name (i := 3) sc_law.nd rfl (.inl rfl)) pgs_nil))) (pss_cons (ps_set (i := 7) sc_law.nd rfl (.inl rfl) (pe_own h_seed (hr.mono (by decide)) pass0 (pa_cons (pv 3) pa_nil)))
 (pss_cons (ps_set (i := 8) sc_law.nd rfl (.inl rfl) (pe_ix ix_list (pv 1) (pe_op op_mod (pv 6) pe_int) (fun _ _ => rfl)))
 (pss_cons (ps_set (i := 9) sc_law.nd rfl (.inl rfl) (pe_ix ix_list (pv 1) (pe_op op_sub pe_int (pe_op op_mod (pv 6) pe_int)) (fun _ _ => rfl)))
 (pss_cons (ps_asg (pe_own h_question (hr.mono (by decide)) pass0 (pa_cons (pv 7) (pa_cons (pe_ix ix_list (pv 8) pe_int (fun _ _ => rfl)) (pa_cons (pe_ix ix_list (pv 8) pe_int (fun _ _ => rfl)) pa_nil)))) (pg_unl rfl (pgs_cons (pg_name (i := 10) sc_law.nd rfl (.inl rfl)) (pgs_cons (pg_name (i := 11) sc_law.nd rfl (.inl rfl)) pgs_nil))))
 (pss_cons (ps_set (i := 12) sc_law.nd rfl (.inl rfl) (pe_mth (pe_ix ix_list (pv 8) pe_int (fun _ _ => rfl)) c_Desk h_ask (hr.mono (by decide)) passL (pa_cons (pv 10) pa_nil)))
 (pss_cons (ps_if (pt_cmpR (op_neD hr.units) (pv 12) (pv 11) (nomark _)) (pss_one (ps_ret pe_bl)) pss_nil)
 (pss_cons (ps_expr (pe_bm PySem.F.plainAttrs_list PySem.F.slot_list_append PySem.F.type_list_append mt_append (pv 2) (pa_cons (pe_tup (pa_cons (pv 12) (pa_cons (pv 11) pa_nil))) pa_nil)))
 (pss_cons (ps_set (i := 13) sc_law.nd rfl (.inl rfl) (pe_mth (pe_ix ix_list (pv 8) pe_int (fun _ _ => rfl)) c_Desk h_ask (hr.mono (by decide)) passL (pa_cons (pv 10) pa_nil)))
 (pss_cons (ps_expr (pe_bm PySem.F.plainAttrs_list PySem.F.slot_list_append PySem.F.type_list_append mt_append (pv 13) (pa_cons pe_str pa_nil)))
 (pss_cons (ps_for PassesOwn.never rfl (pi_range1 (by rfl) z_range (pa_cons pe_int pa_nil)) (pg_name (i := 14) sc_law.nd rfl (.inl rfl)) (pss_cons (ps_asg (pe_own h_deed (hr.mono (by decide)) pass0 (pa_cons (pv 7) (pa_cons (pe_ix ix_list (pv 9) pe_int (fun _ _ => rfl)) (pa_cons (pe_ix ix_list (pv 9) pe_int (fun _ _ => rfl)) pa_nil)))) (pg_unl rfl (pgs_cons (pg_name (i := 15) sc_law.nd rfl (.inl rfl)) (pgs_cons (pg_sub (pv 9) pe_int set_list) (pgs_cons (pg_sub (pv 9) pe_int set_list) pgs_nil)))))
 (pss_one (ps_if (pt_cmpR (op_neD hr.units) (pe_mth (pe_ix ix_list (pv 9) pe_int (fun _ _ => rfl)) c_Desk h_ask (hr.mono (by decide)) passL (pa_cons (pv 15) pa_nil)) (pe_lst pa_nil) (nomark _)) (pss_one (ps_ret pe_bl)) pss_nil))))
 (pss_cons (ps_if (pt_cmpR (op_neD hr.units) (pe_mth (pe_ix ix_list (pv 8) pe_int (fun _ _ => rfl)) c_Desk h_ask (hr.mono (by decide)) passL (pa_cons (pv 10) pa_nil)) (pv 11) (nomark _)) (pss_one (ps_ret pe_bl)) pss_nil)
 (pss_cons (ps_asg (pe_own h_question (hr.mono (by decide)) pass0 (pa_cons (pv 7) (pa_cons (pe_ix ix_list (pv 9) pe_int (fun _ _ => rfl)) (pa_cons (pe_ix ix_list (pv 9) pe_int (fun _ _ => rfl)) pa_nil)))) (pg_unl rfl (pgs_cons (pg_name (i := 10) sc_law.nd rfl (.inl rfl)) (pgs_cons (pg_name (i := 11) sc_law.nd rfl (.inl rfl)) pgs_nil))))
 (pss_one (ps_if (pt_cmpR (op_neD hr.units) (pe_mth (pe_ix ix_list (pv 9) pe_int (fun _ _ => rfl)) c_Desk h_ask (hr.mono (by decide)) passL (pa_cons (pv 10) pa_nil)) (pv 11) (nomark _)) (pss_one (ps_ret pe_bl)) pss_nil)))))))))))))))
 (pss_one (ps_ret (pe_cmpR (op_eqD hr.units) (pe_lc (own := [("told", 12), ("due", 11)]) (by rfl) sc_law.nd (pi_list (pv 2)) (blkOk_by (own := [("told", 12), ("due", 11)]) (N := ["script", "desks", "held", "cell", "rule", "desk", "k", "seed", "one", "other", "line", "due", "told", "more", "turn", "deed"]) (sc := defScope s_law) (by decide +kernel)) (fun _ _ _ _ _ => tup_in (K := K) (n := 2) rfl rfl (pgs_cons (pg_name (i := 12) sc_law.nd rfl (Or.inl rfl)) (pgs_cons (pg_name (i := 11) sc_law.nd rfl (Or.inl rfl)) pgs_nil))) (fun _ _ _ _ _ => pts_one (pt_cmpR (op_neDK (K := K) rfl hr.units) (pv 12) (pv 11) (nomark _))) (fun _ _ _ _ _ => pe_int)) (pe_lst pa_nil) (nomark _)))))))), ?_⟩
  have R0 : Rule 0 0 1 := ⟨by decide, by decide, by decide, by decide, by decide, by decide⟩
  have e12 : (10 : Int) ^ (12 : Int).toNat = 1000000000000 := by decide
  refine ⟨by show 0 ≤ sizeLine; decide, fun DL nDL => ⟨by show 0 ≤ sizeLine; decide, fun LH nLH => ?_⟩⟩
  have sD := same_new (o := .lst []) nDL
  have sL := same_new (o := .lst []) nLH
  have hD1 := upd_same (H := H) (a := DL) (o := .lst [])
  have hL1 := upd_same (H := upd H DL (.lst [])) (a := LH) (o := .lst [])
  have s1 := sD.trans sL
  have M0 : ManyD C CK P1 P2 (upd (upd H DL (.lst [])) LH (.lst [])) DL LH [] := ⟨(fun x hx => by cases hx), (fun x hx => by cases hx), List.Pairwise.nil, sL _ _ hD1, hL1, tabG_same hT1 s1, tabG_same hT2 s1, ne_free hD1 nLH⟩
  have k1 : ∀ o, (∀ ps, o ≠ HO.tbl ps) → H sa = some o → (upd (upd H DL (.lst [])) LH (.lst [])) sa = some o := fun o _ e => s1 _ _ e
  have nsD : ∀ o, H sa = some o → sa ≠ DL := fun o e => ne_free e nDL
  have nsL : ∀ o, H sa = some o → sa ≠ LH := fun o e => ne_free (sD _ _ e) nLH
  generalize upd (upd H DL (.lst [])) LH (.lst []) = H1 at M0 k1 ⊢
  clear hD1 hL1 s1 sD sL nDL nLH
  refine ⟨_, rfl, _, _, rfl, sa, xs, 1, rfl, rfl, sqL_keep hS k1, hl, by decide, fun H2 q2 s2 nq2 hq2 => ?_⟩
  refine ⟨by show 1 ≤ sizeLine; decide, fun l3 nl3 => ?_⟩
  have s3 := same_new (o := .lst [V.int 9]) nl3
  refine ⟨q2, l3, _, _, rfl, rfl, s3 _ _ hq2, upd_same, ?_, fun l4 nl4 => ?_⟩
  · rw [List.length_map, List.length_append, List.length_take]
    show _ + 1 + 1 ≤ sizeLine
    have : min 1 xs.length + 1 + 1 ≤ 3 := by omega
    exact Nat.le_trans this (by decide)
  have s4 := same_new (o := .lst ((xs.take 1 ++ [(xs.length : Int)]).map V.int ++ [V.int 9])) nl4
  refine ⟨_, rfl, l4, _, rfl, SqL.of upd_same, fun l5 nl5 => ?_⟩
  rw [show (some (2 : Int)) = some ((2 : Nat) : Int) from rfl, cut_take]
  obtain ⟨c1, c2, ec⟩ : ∃ c1 c2 : Int, ((xs.take 1 ++ [(xs.length : Int)]).map V.int ++ [V.int 9]).take 2 = ([c1, c2] : List Int).map V.int := by
    cases xs with
    | nil => exact ⟨0, 9, rfl⟩
    | cons x r => exact ⟨x, _, rfl⟩
  rw [ec]
  have s5 := same_new (o := .lst (([c1, c2] : List Int).map V.int)) nl5
  have hl5 := upd_same (H := (upd (upd H2 l3 (.lst [V.int 9])) l4 (.lst ((xs.take 1 ++ [(xs.length : Int)]).map V.int ++ [V.int 9])))) (a := l5) (o := .lst (([c1, c2] : List Int).map V.int))
  have s15 := s2.trans (s3.trans (s4.trans s5))
  have M5 := M0.same s15
  have k5 : ∀ o, (∀ ps, o ≠ HO.tbl ps) → H sa = some o → (upd (upd (upd H2 l3 (.lst [V.int 9])) l4 (.lst ((xs.take 1 ++ [(xs.length : Int)]).map V.int ++ [V.int 9]))) l5 (.lst (([c1, c2] : List Int).map V.int))) sa = some o := fun o no e => s15 _ _ (k1 o no e)
  have n5D : l5 ≠ DL := Ne.symm (ne_free ((s2.trans (s3.trans s4)) _ _ M0.hD) nl5)
  replace hl5 : (upd (upd (upd H2 l3 (.lst [V.int 9])) l4 (.lst ((xs.take 1 ++ [(xs.length : Int)]).map V.int ++ [V.int 9]))) l5 (.lst (([c1, c2] : List Int).map V.int))) l5 = some (.lst (([c1, c2] : List Int).map V.int)) := hl5
  generalize (upd (upd (upd H2 l3 (.lst [V.int 9])) l4 (.lst ((xs.take 1 ++ [(xs.length : Int)]).map V.int ++ [V.int 9]))) l5 (.lst (([c1, c2] : List Int).map V.int))) = H5 at hl5 M5 k5 ⊢
  clear s15 s5 s4 s3 hq2 s2 M0 k1
  refine ⟨l5, rfl, ⟨_, SqL.of hl5⟩, for_list (K := K) (a := l5) (xs := ([c1, c2] : List Int).map V.int) (fun i σ H' => ∃ (y3 y4 y5 : Option V) (ds : List DR), σ = [some (.ref sa), some (.ref DL), some (.ref LH), y3, y4, y5, none, none, none, none, none, none, none, none, none, none] ∧ ManyD C CK P1 P2 H' DL LH ds ∧ ds.length = i ∧ H' l5 = some (.lst (([c1, c2] : List Int).map V.int)) ∧ (∀ o, (∀ ps, o ≠ HO.tbl ps) → H sa = some o → H' sa = some o)) ⟨_, _, _, [], rfl, M5, rfl, hl5, k5⟩ ?_ ?_ ?_⟩
  · rintro i σ H' _ ⟨y3, y4, y5, ds, rfl, M, _, h5, _⟩
    exact SqL.of h5
  · rintro i x σ Ha hi ⟨y3, y4, y5, ds, rfl, M, dl, h5, ka⟩
    obtain ⟨rfl, li⟩ := vget hi
    have li2 : i < 2 := li
    refine ⟨_, rfl, _, rfl, _, rfl, fun Hb d sb nd Db => ?_⟩
    refine ⟨_, _, rfl, rfl, ⟨by decide, by decide, by decide⟩, by show 2 ≤ sizeLine; decide, fun l1 nl1 => ?_⟩
    have t1 := same_new (o := .lst (([40, 10 ^ (12 : Int).toNat] : List Int).map V.int)) nl1
    have hDL := (sb.trans t1) _ _ M.hD
    have mb := mod_bd (((ds.map fun x => V.ref x.e).length : Nat) : Int) (b := 2) (by decide)
    obtain ⟨mn, hm, em⟩ := at_ints (ns := [40, 10 ^ (12 : Int).toNat]) mb.1 (by show _ < 2; exact mb.2)
    have bm : 1 ≤ mn ∧ mn ≤ 1000000000000 := by
      simp only [List.mem_cons, List.not_mem_nil, or_false, e12] at hm
      omega
    refine ⟨_, rfl, DL, _, rfl, .inl (SqL.of hDL), _, _, rfl, rfl, by show (0 : Int) < 2; decide, l1, _, _, _, rfl, rfl, SqL.of upd_same, em, _, _, rfl, d, 0, mn, rfl, rfl, by omega, by omega, Db.same t1, by decide, fun Hc r t pl m Bc Dc nr hr R mm => ?_⟩
    have Mc := M.seed (sb.trans t1) nd (Db.same t1) Bc
    have h5d : l5 ≠ d := ne_free h5 nd
    have h5c := Bc _ _ h5d ((sb.trans t1) _ _ h5)
    have kc : ∀ o, (∀ ps, o ≠ HO.tbl ps) → H sa = some o → Hc sa = some o := fun o no e => Bc _ _ (ne_free (ka o no e) nd) ((sb.trans t1) _ _ (ka o no e))
    clear em hm hDL t1
    refine fun p dx np ndx nep => ?_
    have sp : Same Hc (upd (upd Hc dx (.own p)) p (.ins C dx [])) := (same_new ndx).trans (same_new (by rw [upd_ne (Ne.symm nep)]; exact np))
    refine ⟨_, rfl, Hc, p, dx, rfl, sp, np, upd_same, fun Hd u k l sd Dd nl => ⟨rfl, ?_⟩⟩
    obtain ⟨dxd, hpd⟩ := Dd.1
    have hld := Dd.2.2.2
    have hrd := sd _ _ hr
    have Md := Mc.same sd
    refine ⟨_, rfl, p, dxd, _, rfl, hpd, dkf_no u k (by decide +kernel) (by decide +kernel), _, rfl, _, rfl, r, t, pl, m, rfl, SqT.of hrd, R, ?_⟩
    refine ⟨_, _, rfl, ask_deed (t := 0) (pl := 0) (m := 1) (xs := []) (xs' := []) R0 R (by decide) (fun x hx => by cases hx) (.inl ⟨rfl, rfl⟩) aSeen aBack Dd Md.t1 Md.t2 fun He u' k' l' q9 ke Te1 Te2 De ll nlq9 nq9 hq9 => ?_⟩
    have hre := ke.get Md.t1 Md.t2 hrd (fun ps z => by cases z) (ne_ins hpd hrd (fun _ _ _ z => by cases z)) (fun z => by rw [z, hld] at hrd; cases hrd)
    have h5e := ke.get Md.t1 Md.t2 (sd _ _ h5c) (fun ps z => by cases z) (ne_free h5c np) (ne_free h5c nl)
    have ke' : ∀ o, (∀ ps, o ≠ HO.tbl ps) → H sa = some o → He sa = some o := fun o no e => ke.get Md.t1 Md.t2 (sd _ _ (kc o no e)) no (ne_free (kc o no e) np) (ne_free (kc o no e) nl)
    refine ⟨_, rfl, .inl ⟨rfl, _, SqL.of (ke.get Md.t1 Md.t2 Md.hD (fun ps z => by cases z) (ne_free Mc.hD np) (ne_free Mc.hD nl))⟩, ?_⟩
    refine ⟨_, rfl, _, rfl, by show 0 ≤ sizeLine; decide, fun rw nrw => ⟨by show 3 ≤ sizeLine; decide, fun e ne => ?_⟩⟩
    obtain ⟨hDf, Mf⟩ := Mc.turn (by omega) sd np nl Dd ke Te1 Te2 De ll hre R nrw ne (dx := dxd)
    have tt := (same_new (o := .lst []) nrw).trans (same_new (o := .lst [.ref p, .ref r, .ref rw]) ne)
    refine ⟨DL, _, _, rfl, rfl, hDf, szl (by rw [List.length_map]; omega), ?_⟩
    refine ⟨_, _, _, _, rfl, Mf, by rw [List.length_append]; show ds.length + 1 = i + 1; omega, by rw [upd_ne n5D]; exact tt _ _ h5e, fun o no e => ?_⟩
    rw [upd_ne (nsD o e)]
    exact tt _ _ (ke' o no e)
  rintro σ H6 ⟨y3, y4, y5, ds, rfl, M6, dl, _, k6⟩
  obtain ⟨A0, B0, rfl⟩ : ∃ A B, ds = [A, B] := by
    match ds, dl with
    | [A, B], _ => exact ⟨A, B, rfl⟩
  have hS6 := sqL_keep hS k6
  refine ⟨_, rfl, _, _, rfl, sa, xs, 8, rfl, rfl, hS6, hl, by decide, fun H7 q7 s7 nq7 hq7 => ?_⟩
  have lc : (xs.take 8 ++ [(xs.length : Int)]).length ≤ 9 := by
    rw [List.length_append, List.length_take]
    show _ + 1 ≤ 9
    omega
  generalize xs.take 8 ++ [(xs.length : Int)] = cs at hq7 lc
  have M7 := M6.two s7 nq7 hq7
  have ea0 := M6.emp A0 (by simp)
  have eb0 := M6.emp B0 (by simp)
  clear hS6 k6 M6 s7
  refine ⟨q7, _, rfl, SqL.of hq7, for_it (walk_enum (K := K) (a := q7) (xs := cs.map V.int)) (fun i σ H' => ∃ (z3 z6 z7 z8 z9 z10 z11 z12 z13 z14 z15 : Option V) (A B : DR) (hs : List Addr), σ = [some (.ref sa), some (.ref DL), some (.ref LH), z3, y4, y5, z6, z7, z8, z9, z10, z11, z12, z13, z14, z15] ∧ TwoD C CK P1 P2 H' DL LH q7 [.ref A.e, .ref B.e] cs A B hs ∧ hs.length ≤ i ∧ A.xs.length ≤ 3 * i ∧ B.xs.length ≤ 3 * i) ⟨_, _, _, _, _, _, _, _, _, _, _, A0, B0, [], rfl, M7, Nat.le_refl _, by rw [ea0]; exact Nat.le_refl _, by rw [eb0]; exact Nat.le_refl _⟩ ?_ ?_ ?_⟩
  · rintro i σ H' _ ⟨z3, z6, z7, z8, z9, z10, z11, z12, z13, z14, z15, A, B, hs, rfl, M, _⟩
    exact SqL.of M.hq
  · rintro i x σ Ha Ha' hi ⟨z3, z6, z7, z8, z9, z10, z11, z12, z13, z14, z15, A, B, hs, rfl, M, lh, xa, xb⟩ ⟨T0, x1, x2, rfl, nT, rfl, k1, k2⟩
    cases k1
    obtain ⟨rfl, li⟩ := vget k2
    have sT := same_new (o := .tup [.int (i : Nat), .int (cs.getD i 0)]) nT
    refine ⟨T0, _, rfl, SqT.of upd_same, rfl, _, _, rfl, _, _, rfl, rfl, ?_⟩
    obtain ⟨O, T, hO, hT, M1, xo, xt, back⟩ : ∃ O T : DR, atI [V.ref A.e, V.ref B.e] ((i : Int) % 2) = some (.ref O.e) ∧ atI [V.ref A.e, V.ref B.e] (1 - (i : Int) % 2) = some (.ref T.e) ∧ TwoD C CK P1 P2 (upd Ha T0 (.tup [.int (i : Nat), .int (cs.getD i 0)])) DL LH q7 [.ref A.e, .ref B.e] cs O T hs ∧ O.xs.length ≤ 3 * i ∧ T.xs.length ≤ 3 * i ∧
        ∀ (H' : Hp) (T' : DR) (hs' : List Addr), T'.e = T.e → TwoD C CK P1 P2 H' DL LH q7 [.ref A.e, .ref B.e] cs O T' hs' → T'.xs.length ≤ 3 * (i + 1) → ∃ A' B' : DR, TwoD C CK P1 P2 H' DL LH q7 [.ref A'.e, .ref B'.e] cs A' B' hs' ∧ A'.xs.length ≤ 3 * (i + 1) ∧ B'.xs.length ≤ 3 * (i + 1) := by
      rcases (show (i : Int) % 2 = 0 ∨ (i : Int) % 2 = 1 by omega) with e | e
      · rw [e]
        exact ⟨A, B, rfl, rfl, M.same sT, xa, xb, fun H' T' hs' eT M' l' => ⟨A, T', by rw [eT]; exact M', by omega, l'⟩⟩
      · rw [e]
        exact ⟨B, A, rfl, rfl, (M.same sT).swap, xb, xa, fun H' T' hs' eT M' l' => ⟨T', B, by rw [eT]; exact M'.swap, l', by omega⟩⟩
    generalize upd Ha T0 (.tup [.int (i : Nat), .int (cs.getD i 0)]) = H1 at M1 ⊢
    refine ⟨_, rfl, _, rfl, _, rfl, fun Hb d sb nd Db => ?_⟩
    have Mb := M1.same sb
    have off : OffD d q7 O T := ⟨ne_free (Dk.dk M1.a).2.2.2 nd, ne_free (Dk.dk M1.b).2.2.2 nd, ne_free (Dk.hrw M1.a) nd, ne_free (Dk.hrw M1.b) nd, ne_free M1.hq nd⟩
    have nLd : LH ≠ d := ne_free M1.hh.1 nd
    refine ⟨_, rfl, _, rfl, _, _, rfl, rfl, by show (0 : Int) < 2; decide, DL, _, _, _, rfl, rfl, SqL.of Mb.hD, hO, ?_⟩
    refine ⟨_, rfl, _, rfl, _, _, rfl, rfl, by show (0 : Int) < 2; decide, _, _, rfl, rfl, DL, _, _, _, rfl, rfl, SqL.of Mb.hD, hT, ?_⟩
    have ob := Mb.a.R.b1
    refine ⟨_, rfl, _, rfl, O.e, _, 1, _, rfl, rfl, SqL.of Mb.a.en, rfl, _, rfl, O.e, _, 2, _, rfl, rfl, SqL.of Mb.a.en, rfl, _, _, _, rfl, d, O.r, O.rw, 0, O.t, O.pl, O.m, O.xs, rfl, rfl, rfl, Db, by decide, Mb.a.hr, Mb.a.R, Mb.a.hrw, off.ra, Mb.a.rg, Dk.ft Mb.a, by omega, fun Hc L Dd line zs Bc Dc nL nDd hL hDd qk => ?_⟩
    have Mc := Mb.but Db off Bc
    have aq := aQ _ _ _ _ line zs Mb.a.R (by omega) Mb.a.rg (Dk.ft Mb.a) qk
    have sh := shp_strs aq.1
    have zl := ques_short (by omega) qk
    have nDL' : Dd ≠ LH := Ne.symm (ne_free Mb.hh.1 nDd)
    refine ⟨L, _, rfl, SqL.of hL, rfl, _, _, rfl, _, _, rfl, rfl, ?_⟩
    obtain ⟨dxc, hpc⟩ := Mc.a.dk.1
    refine ⟨_, rfl, O.e, _, 0, _, rfl, rfl, SqL.of Mc.a.en, rfl, O.p, dxc, _, rfl, hpc, dkf_no O.u O.k (by decide +kernel) (by decide +kernel), _, rfl, ?_⟩
    refine ⟨_, _, rfl, aq.2.2 _ _ _ O.p O.u O.k O.l Mc.a.dk Mc.t1 Mc.t2 fun Hd q1 gd nq1 hq1 => ?_⟩
    have Md := Mc.grow gd
    have dd := gd.get Mc.t1 Mc.t2 hDd (fun ps z => by cases z)
    refine ⟨_, rfl, _, rfl, .list (zs.map PyData.str), .list (zs.map PyData.str), .lst (SqL.of hq1) (dp_strs zs), .lst (SqL.of dd) (dp_strs zs), sh, sh, ?_⟩
    rw [eqv_self sh]
    refine ⟨_, rfl, ifF rfl ?_⟩
    refine ⟨_, rfl, .inl ⟨rfl, _, SqL.of Md.hh.1⟩, _, rfl, _, rfl, by show 2 ≤ sizeLine; decide, fun q3 nq3 => ?_⟩
    have s3 := same_new (o := .tup [.ref q1, .ref Dd]) nq3
    have Me := Md.same s3
    refine ⟨LH, _, _, rfl, rfl, Me.hh.1, szl (by rw [List.length_map]; omega), ?_⟩
    have Mf := Me.held aq.2.1 aq.1 upd_same (s3 _ _ hq1) (s3 _ _ dd)
    have Df : Seed (upd (upd Hd q3 (.tup [.ref q1, .ref Dd])) LH (.lst (hs.map V.ref ++ [.ref q3]))) d 20 := ((Dc.grow Mc.t1 Mc.t2 gd).same s3).mut nLd
    have ddf : (upd (upd Hd q3 (.tup [.ref q1, .ref Dd])) LH (.lst (hs.map V.ref ++ [.ref q3]))) Dd = some (.lst (zs.map V.str)) := by rw [upd_ne nDL']; exact s3 _ _ dd
    generalize upd (upd Hd q3 (.tup [.ref q1, .ref Dd])) LH (.lst (hs.map V.ref ++ [.ref q3])) = Hf at Mf Df ddf ⊢
    clear Me s3 Md dd gd hq1 nq1 hpc Mc hDd hL Bc Dc
    obtain ⟨dxf, hpf⟩ := Mf.a.dk.1
    refine ⟨_, rfl, O.e, _, 0, _, rfl, rfl, SqL.of Mf.a.en, rfl, O.p, dxf, _, rfl, hpf, dkf_no O.u O.k (by decide +kernel) (by decide +kernel), _, rfl, ?_⟩
    refine ⟨_, _, rfl, aq.2.2 _ _ _ O.p O.u O.k O.l Mf.a.dk Mf.t1 Mf.t2 fun Hg q4 gg nq4 hq4 => ?_⟩
    refine ⟨_, rfl, .inl ⟨rfl, _, SqL.of hq4⟩, q4, _, _, rfl, rfl, hq4, szl (by rw [List.length_map]; omega), ?_⟩
    have gh := gg.updN (o := .lst (zs.map V.str ++ [.str (Str.ofString "x")])) nq4 hq4
    have Mh := Mf.grow gh
    have Dh := Df.grow Mf.t1 Mf.t2 gh
    have ddh := gh.get Mf.t1 Mf.t2 ddf (fun ps z => by cases z)
    replace Mh : TwoD C CK P1 P2 (upd Hg q4 (.lst (zs.map V.str ++ [.str "x"]))) DL LH q7 [.ref A.e, .ref B.e] cs O T (hs ++ [q3]) := Mh
    replace Dh : Seed (upd Hg q4 (.lst (zs.map V.str ++ [.str "x"]))) d 20 := Dh
    replace ddh : (upd Hg q4 (.lst (zs.map V.str ++ [.str "x"]))) Dd = some (.lst (zs.map V.str)) := ddh
    generalize upd Hg q4 (.lst (zs.map V.str ++ [.str "x"])) = Hh at Mh Dh ddh ⊢
    clear gh gg hq4 nq4 hpf Mf Df ddf
    refine ⟨_, rfl, by decide, by decide, ?_⟩
    refine for_range (lo := 0) (n := 3) (fun j σ H' => ∃ (z14 z15 : Option V) (T' : DR), σ = [some (.ref sa), some (.ref DL), some (.ref LH), some (.int (cs.getD i 0)), y4, y5, some (.int (i : Nat)), some (.ref d), some (.ref O.e), some (.ref T'.e), some (.str (SX.S line)), some (.ref Dd), some (.ref q1), some (.ref q4), z14, z15] ∧ TwoD C CK P1 P2 H' DL LH q7 [.ref A.e, .ref B.e] cs O T' (hs ++ [q3]) ∧ Seed H' d (20 + 60 * j) ∧ OffD d q7 O T' ∧ T'.e = T.e ∧ T'.xs.length ≤ 3 * i + j ∧ H' Dd = some (.lst (zs.map V.str))) ⟨_, _, T, rfl, Mh, Dh, off, rfl, xt, ddh⟩ ?_ ?_
    · rintro j σ Hj hj ⟨z14, z15, T', rfl, Mj, Dj, offj, eT, xj, ddj⟩
      have tb := Mj.b.R.b1
      refine ⟨_, rfl, _, rfl, T'.e, _, 1, _, rfl, rfl, SqL.of Mj.b.en, rfl, _, rfl, T'.e, _, 2, _, rfl, rfl, SqL.of Mj.b.en, rfl, _, _, _, rfl, d, T'.r, T'.rw, _, T'.t, T'.pl, T'.m, T'.xs, rfl, rfl, rfl, Dj, by omega, Mj.b.hr, Mj.b.R, Mj.b.hrw, offj.rb, Mj.b.rg, Mj.b.ob, by omega, fun Hk L2 r2 rw2 line2 t2 pl2 m2 xs2 Bk Dk2 nL2 nrw2 hL2 hr2 R2 hrw2 dk => ?_⟩
      have Mk := Mj.but Dj offj Bk
      have b2 := R2.b1
      obtain ⟨rg2, ft2, lx2⟩ := deed_facts (show 0 < T'.m by omega) (show 0 < m2 by omega) Mj.b.rg (Dk.ft Mj.b) dk.1
      refine ⟨L2, _, rfl, SqL.of hL2, rfl, _, _, rfl, _, _, rfl, _, rfl, T'.e, _, 1, 1, rfl, rfl, Mk.b.en, rfl, _, _, rfl, _, rfl, T'.e, _, 2, 2, rfl, rfl, upd_same, rfl, rfl, ?_⟩
      have eU : upd (upd Hk T'.e (.lst ([V.ref T'.p, V.ref T'.r, V.ref T'.rw].set 1 (.ref r2)))) T'.e (.lst (([V.ref T'.p, V.ref T'.r, V.ref T'.rw].set 1 (.ref r2)).set 2 (.ref rw2))) = upd Hk T'.e (.lst [.ref T'.p, .ref r2, .ref rw2]) := upd_upd ..
      rw [eU]
      have enk := Mk.b.en
      have T21 := tabG_updL (o := .lst [.ref T'.p, .ref r2, .ref rw2]) Mk.t1 enk
      have T22 := tabG_updL (o := .lst [.ref T'.p, .ref r2, .ref rw2]) Mk.t2 enk
      have D2' := (Dk.dk Mk.b).updL (o := .lst [.ref T'.p, .ref r2, .ref rw2]) enk (fun z => ref_ne_ints enk (Dk.dk Mk.b).2.2.2 z.symm)
      obtain ⟨dx2, hp2⟩ := D2'.1
      refine ⟨_, rfl, T'.e, _, 0, _, rfl, rfl, SqL.of upd_same, rfl, T'.p, dx2, _, rfl, hp2, dkf_no T'.u T'.k (by decide +kernel) (by decide +kernel), _, rfl, ?_⟩
      refine ⟨_, _, rfl, ask_deed Mj.b.R R2 (by omega) Mj.b.rg dk.1 aSeen aBack D2' T21 T22 fun Hl u3 k3 l3 q6 kl Tl1 Tl2 Dl ll nlq nq hq => ?_⟩
      refine ⟨by show 0 ≤ sizeLine; decide, fun q7' nq7' => ?_⟩
      have s6 := same_new (o := .lst []) nq7'
      refine ⟨.list (([] : List Int).map PyData.int), .list (([] : List Int).map PyData.int), .lst (SqL.of (s6 _ _ hq)) (dp_ints []), .lst (SqL.of upd_same) (dp_ints []), shp_lints [], shp_lints [], ?_⟩
      rw [eqv_self (shp_lints [])]
      refine ⟨_, rfl, ifF rfl ?_⟩
      obtain ⟨Mm, Dm, offm, keep⟩ := Mj.step rfl Dj offj Bk Dk2 nrw2 hr2 R2 hrw2 rg2 dk.2 kl Tl1 Tl2 Dl ll s6
      have ddk := Bk _ _ (fun z => by obtain ⟨_, _, _, _, ed, _⟩ := Dj; rw [z, ed] at ddj; match zs, aq.2.1, ddj with | [], ne, _ => exact ne rfl | _ :: _, _, h => cases h) ddj
      have hpk := (Dk.dk Mk.b).1
      obtain ⟨dxk, hpk⟩ := hpk
      exact ⟨_, _, ⟨T'.e, T'.p, r2, rw2, u3, k3, l3, t2, pl2, m2, xs2⟩, rfl, Mm, Dm.mono (by omega), offm, eT, by show xs2.length ≤ _; omega, keep _ _ (fun ps z => by cases z) (strs_ne_ref aq.2.1 ddk enk) (ne_ins hpk ddk (fun _ _ _ z => by cases z)) (strs_ne_ints aq.2.1 ddk (Dk.dk Mk.b).2.2.2) ddk⟩
    rintro σ Hn ⟨z14, z15, T', rfl, Mn, Dn, offn, eT, xn, ddn⟩
    obtain ⟨dxn, hpn⟩ := Mn.a.dk.1
    refine ⟨_, rfl, O.e, _, 0, _, rfl, rfl, SqL.of Mn.a.en, rfl, O.p, dxn, _, rfl, hpn, dkf_no O.u O.k (by decide +kernel) (by decide +kernel), _, rfl, ?_⟩
    refine ⟨_, _, rfl, aq.2.2 _ _ _ O.p O.u O.k O.l Mn.a.dk Mn.t1 Mn.t2 fun Hp q8 gp nq8 hq8 => ?_⟩
    have Mp := Mn.grow gp
    have Dp := Dn.grow Mn.t1 Mn.t2 gp
    have ddp := gp.get Mn.t1 Mn.t2 ddn (fun ps z => by cases z)
    refine ⟨_, rfl, .list (zs.map PyData.str), .list (zs.map PyData.str), .lst (SqL.of hq8) (dp_strs zs), .lst (SqL.of ddp) (dp_strs zs), sh, sh, ?_⟩
    rw [eqv_self sh]
    refine ⟨_, rfl, ifF rfl ?_⟩
    have tb := Mp.b.R.b1
    refine ⟨_, rfl, _, rfl, T'.e, _, 1, _, rfl, rfl, SqL.of Mp.b.en, rfl, _, rfl, T'.e, _, 2, _, rfl, rfl, SqL.of Mp.b.en, rfl, _, _, _, rfl, d, T'.r, T'.rw, _, T'.t, T'.pl, T'.m, T'.xs, rfl, rfl, rfl, Dp, by decide, Mp.b.hr, Mp.b.R, Mp.b.hrw, offn.rb, Mp.b.rg, Dk.ft Mp.b, by omega, fun Hr L3 Dr line3 zs3 Br Dr3 nL3 nDr hL3 hDr qk3 => ?_⟩
    have Mr := Mp.but Dp offn Br
    have aq3 := aQ _ _ _ _ line3 zs3 Mp.b.R (by omega) Mp.b.rg (Dk.ft Mp.b) qk3
    have sh3 := shp_strs aq3.1
    refine ⟨L3, _, rfl, SqL.of hL3, rfl, _, _, rfl, _, _, rfl, rfl, ?_⟩
    obtain ⟨dxr, hpr⟩ := Mr.b.dk.1
    refine ⟨_, rfl, T'.e, _, 0, _, rfl, rfl, SqL.of Mr.b.en, rfl, T'.p, dxr, _, rfl, hpr, dkf_no T'.u T'.k (by decide +kernel) (by decide +kernel), _, rfl, ?_⟩
    refine ⟨_, _, rfl, aq3.2.2 _ _ _ T'.p T'.u T'.k T'.l Mr.b.dk Mr.t1 Mr.t2 fun Hs q9 gs nq9 hq9 => ?_⟩
    have Ms := Mr.grow gs
    have dds := gs.get Mr.t1 Mr.t2 hDr (fun ps z => by cases z)
    refine ⟨_, rfl, .list (zs3.map PyData.str), .list (zs3.map PyData.str), .lst (SqL.of hq9) (dp_strs zs3), .lst (SqL.of dds) (dp_strs zs3), sh3, sh3, ?_⟩
    rw [eqv_self sh3]
    obtain ⟨A', B', M', la', lb'⟩ := back _ T' _ eT Ms (by omega)
    exact ⟨_, rfl, ifF rfl ⟨_, _, _, _, _, _, _, _, _, _, _, A', B', hs ++ [q3], rfl, M', by rw [List.length_append]; show hs.length + 1 ≤ _; omega, la', lb'⟩⟩
  rintro σ H8 ⟨z3, z6, z7, z8, z9, z10, z11, z12, z13, z14, z15, A, B, hs, rfl, M8, _⟩
  have h8 := M8.hh
  refine ⟨_, rfl, LH, rfl, ⟨_, SqL.of h8.1⟩, fun L9 nL9 => ?_⟩
  have s9 := same_new (o := .lst []) nL9
  refine lc_list (K := K) (a := LH) (xs := hs.map V.ref) (fun j H' => H' = upd H8 L9 (.lst [])) rfl ?_ ?_ ?_
  · rintro j H' _ rfl
    exact SqL.of (s9 _ _ h8.1)
  · rintro j x H' hj rfl
    obtain ⟨x', hx', rfl⟩ : ∃ x' ∈ hs, x = V.ref x' := by
      rw [List.getElem?_map] at hj
      cases e : hs[j]? with
      | none => rw [e] at hj; cases hj
      | some x' => rw [e] at hj; exact ⟨x', List.mem_iff_getElem?.mpr ⟨j, e⟩, (Option.some.inj hj).symm⟩
    obtain ⟨a, b, z, r', e5, e3, e4, sh⟩ := h8.2 x' hx'
    refine ⟨_, _, rfl, SqT.of (s9 _ _ e5), rfl, ?_⟩
    refine ⟨_, _, rfl, _, _, rfl, rfl, rfl, _, rfl, _, rfl, .list ((z :: r').map PyData.str), .list ((z :: r').map PyData.str), .lst (SqL.of (s9 _ _ e3)) (dp_strs (z :: r')), .lst (SqL.of (s9 _ _ e4)) (dp_strs (z :: r')), sh, sh, ?_⟩
    rw [eqv_self sh]
    exact ⟨_, rfl, ifF rfl rfl⟩
  · rintro H' rfl
    refine ⟨by show 0 ≤ sizeLine; decide, fun E0 nE => ?_⟩
    have s4 := same_new (o := .lst []) nE
    refine ⟨.list (([] : List Int).map PyData.int), .list (([] : List Int).map PyData.int), .lst (SqL.of (s4 _ _ upd_same)) (dp_ints []), .lst (SqL.of upd_same) (dp_ints []), shp_lints [], shp_lints [], ?_⟩
    rw [eqv_self (shp_lints [])]
    exact q _
end
end Tw


namespace Tw
open PySem PySem.Spec PyProof.Rows L2

def fnK : List He.DefD := [dOf "is_whole" s_is_whole,
  dOf "is_number" s_is_number,
  dOf "check_number" s_check_number,
  dOf "is_figures" s_is_figures,
  dOf "read_rule" s_read_rule,
  dOf "read_number" s_read_number,
  dOf "read_many" s_read_many,
  dOf "read_steps" s_read_steps,
  dOf "read_word" s_read_word,
  dOf "read_line" s_read_line,
  dOf "rule_shown" s_rule_shown,
  dOf "tell_rule" s_tell_rule,
  dOf "next_of" s_next_of,
  dOf "tell_next" s_tell_next,
  dOf "row_from" s_row_from,
  dOf "tell_row" s_tell_row,
  dOf "chained" s_chained,
  dOf "rule_of_steps" s_rule_of_steps,
  dOf "common_divisor" s_common_divisor,
  dOf "inverse" s_inverse,
  dOf "rule_back" s_rule_back,
  dOf "jumped" s_jumped,
  dOf "tell_jump" s_tell_jump,
  dOf "check_small" s_check_small,
  dOf "walked_on" s_walked_on,
  dOf "round_from" s_round_from,
  dOf "tell_round" s_tell_round,
  dOf "all_rounds" s_all_rounds,
  dOf "tell_rounds" s_tell_rounds,
  dOf "has_each_prime_of" s_has_each_prime_of,
  dOf "is_one_round" s_is_one_round,
  dOf "tell_one" s_tell_one,
  dOf "before" s_before,
  dOf "gaps_of" s_gaps_of,
  dOf "narrowed" s_narrowed,
  dOf "fits_on_the_way" s_fits_on_the_way,
  dOf "times_that_fit" s_times_that_fit,
  dOf "rules_that_fit" s_rules_that_fit,
  dOf "settled_by" s_settled_by,
  dOf "number_behind" s_number_behind,
  dOf "shown_or_none" s_shown_or_none,
  dOf "do_seen" s_do_seen,
  dOf "do_back" s_do_back,
  dOf "tell_fits" s_tell_fits,
  dOf "tell_guess" s_tell_guess,
  dOf "tell_settled" s_tell_settled,
  dOf "_law_seed" s_seed,
  dOf "_law_draw" s_draw,
  dOf "_law_cells" s_cells,
  dOf "_law_far" s_far,
  dOf "_law_rule" s_rule,
  dOf "_law_next" s_next,
  dOf "_law_line" s_line,
  dOf "_law_joined" s_joined,
  dOf "_law_text" s_text,
  dOf "_law_of_row" s_of_row,
  dOf "_law_question" s_question,
  dOf "_law_deed" s_deed,
  dOf "law" s_law,
  mOf "NoNumber" "__init__" "NoNumber.__init__" s_init,
  mOf "KeptRow" "__init__" "KeptRow.__init__" s_kinit,
  mOf "KeptRow" "row_now" "KeptRow.row_now" s_row_now,
  mOf "KeptRow" "see" "KeptRow.see" s_see,
  mOf "KeptRow" "take_back" "KeptRow.take_back" s_take_back,
  mOf "KeptRow" "fit_now" "KeptRow.fit_now" s_fit_now,
  mOf "KeptRow" "guess_now" "KeptRow.guess_now" s_guess_now,
  mOf "Desk" "__init__" "Desk.__init__" s_dinit,
  mOf "Desk" "ask" "Desk.ask" s_ask,
  mOf "Desk" "take_rule" "Desk.take_rule" s_take_rule]
def faK0 : List He.Fa := [.glo "is_whole", .glo "is_number", .glo "check_number", .glo "is_figures", .glo "read_rule", .glo "read_number", .glo "read_many", .glo "read_steps", .glo "read_word", .glo "read_line", .glo "rule_shown", .glo "tell_rule", .glo "next_of", .glo "tell_next", .glo "row_from", .glo "tell_row", .glo "chained", .glo "rule_of_steps", .glo "common_divisor", .glo "inverse", .glo "rule_back", .glo "jumped", .glo "tell_jump", .glo "check_small", .glo "walked_on", .glo "round_from", .glo "tell_round", .glo "all_rounds", .glo "tell_rounds", .glo "has_each_prime_of"]
def faK1 : List He.Fa := [.glo "is_one_round", .glo "tell_one", .glo "before", .glo "gaps_of", .glo "narrowed", .glo "fits_on_the_way", .glo "times_that_fit", .glo "rules_that_fit", .glo "settled_by", .glo "number_behind", .glo "shown_or_none", .glo "do_seen", .glo "do_back", .glo "tell_fits", .glo "tell_guess", .glo "tell_settled", .glo "_law_seed", .glo "_law_draw", .glo "_law_cells", .glo "_law_far", .glo "_law_rule", .glo "_law_next", .glo "_law_line", .glo "_law_joined", .glo "_law_text", .glo "_law_of_row", .glo "_law_question", .glo "_law_deed", .glo "law", .free "len"]
def faK2 : List He.Fa := [.free "range", .free "isinstance", .free "int", .free "bool", .free "tuple", .free "str", .free "all", .free "zip", .free "sorted", .free "enumerate", .free "max", .free "min", .glo "RowError", .glo "NoRule", .glo "NoBack", .glo "NoFit", .glo "NoAsk", .glo "NoNumber", .glo "KeptRow", .glo "Desk", .meth "NoNumber" "__init__", .noat "NoNumber" "number", .exc "NoAsk", .exc "NoRule", .exc "NoBack", .exc "NoFit", .str "FIGURES" "0123456789", .str "RULE_HEAD" "rule ", .int "MOST_FIGURES" 19, .int "MOST_NUMBERS" 60]
def faK3 : List He.Fa := [.int "MOST_SMALL_BOUND" 2000, .glo "READERS", .glo "LINES", .glo "ACTIONS", .cls "KeptRow", .mkr "KeptRow", .noat "KeptRow" "bound", .noat "KeptRow" "numbers", .meth "KeptRow" "row_now", .meth "KeptRow" "see", .meth "KeptRow" "take_back", .meth "KeptRow" "fit_now", .meth "KeptRow" "guess_now", .cls "Desk", .mkr "Desk", .noat "Desk" "rule", .noat "Desk" "kept", .meth "Desk" "ask", .meth "Desk" "take_rule"]
def faK : List He.Fa := faK0 ++ faK1 ++ faK2 ++ faK3
def tfK : List He.Defn := [("is_figures", none), ("read_rule", none)]
def exK (K : Fr) : Bool := numB K && (decide ((He.cT K ("read_rule", none)).2 ≠ (He.cT K ("is_figures", none)).2) && (He.valsB K (He.ga K "READERS") [("NUMBER", .glo "read_number"), ("START", .glo "read_number"), ("MANY", .glo "read_many"), ("STEPS", .glo "read_steps")] && (He.valsB K (He.ga K "LINES") [("seen", .adr fun K => tvA K (He.ga K "LINES") "seen"), ("back", .adr fun K => tvA K (He.ga K "LINES") "back"), ("show", .adr fun K => tvA K (He.ga K "LINES") "show"), ("next", .adr fun K => tvA K (He.ga K "LINES") "next"), ("row", .adr fun K => tvA K (He.ga K "LINES") "row"), ("jump", .adr fun K => tvA K (He.ga K "LINES") "jump"), ("round", .adr fun K => tvA K (He.ga K "LINES") "round"), ("rounds", .adr fun K => tvA K (He.ga K "LINES") "rounds"), ("one", .adr fun K => tvA K (He.ga K "LINES") "one"), ("fits", .adr fun K => tvA K (He.ga K "LINES") "fits"), ("guess", .adr fun K => tvA K (He.ga K "LINES") "guess"), ("settled", .adr fun K => tvA K (He.ga K "LINES") "settled")] && (tupSB K (tvA K (He.ga K "LINES") "seen") ["NUMBER"] && (tupSB K (tvA K (He.ga K "LINES") "back") [] && (tupSB K (tvA K (He.ga K "LINES") "show") [] && (tupSB K (tvA K (He.ga K "LINES") "next") ["NUMBER"] && (tupSB K (tvA K (He.ga K "LINES") "row") ["START", "MANY"] && (tupSB K (tvA K (He.ga K "LINES") "jump") ["START", "STEPS"] && (tupSB K (tvA K (He.ga K "LINES") "round") ["START"] && (tupSB K (tvA K (He.ga K "LINES") "rounds") [] && (tupSB K (tvA K (He.ga K "LINES") "one") [] && (tupSB K (tvA K (He.ga K "LINES") "fits") [] && (tupSB K (tvA K (He.ga K "LINES") "guess") [] && (tupSB K (tvA K (He.ga K "LINES") "settled") [] && (He.valsB K (He.ga K "ACTIONS") [("seen", .glo "do_seen"), ("back", .glo "do_back"), ("show", .glo "tell_rule"), ("next", .glo "tell_next"), ("row", .glo "tell_row"), ("jump", .glo "tell_jump"), ("round", .glo "tell_round"), ("rounds", .glo "tell_rounds"), ("one", .glo "tell_one"), ("fits", .glo "tell_fits"), ("guess", .glo "tell_guess"), ("settled", .glo "tell_settled")]))))))))))))))))
def tsK : List He.Tab := [(fun K => He.ga K "READERS", ["NUMBER", "START", "MANY", "STEPS"]), (fun K => He.ga K "LINES", ["seen", "back", "show", "next", "row", "jump", "round", "rounds", "one", "fits", "guess", "settled"]), (fun K => He.ga K "ACTIONS", ["seen", "back", "show", "next", "row", "jump", "round", "rounds", "one", "fits", "guess", "settled"])]
abbrev hk : PySem.W.Hook := hookY 5 faK fnK tsK tfK exK
def ob (s : PySem.W.SharedT) : AlY := obsY 5 faK fnK tsK tfK exK (HandSHeadRun.getT s)
theorem ob_eq (s : PySem.W.SharedT) : ob s = hk.obs s.abs := obsY_eq (HandSHeadRun.getT_eq s)
abbrev Rw : PySem.W.OpenRow := PySem.W.OpenLaw.row PySem.Challenge.rw_timesrow_k39_whole_two_desks
def names0 : List Str := ["RowError", "NoRule", "NoBack", "NoFit", "NoAsk", "NoNumber", "is_whole", "is_number", "check_number", "common_divisor", "inverse", "FIGURES", "is_figures", "read_rule", "rule_shown", "next_of", "row_from", "jumped", "rule_back", "rule_of_steps", "chained", "before", "times_that_fit", "rules_that_fit", "settled_by", "number_behind", "fits_on_the_way", "gaps_of", "narrowed", "KeptRow"]
def names1 : List Str := ["walked_on", "round_from", "all_rounds", "is_one_round", "has_each_prime_of", "MOST_FIGURES", "MOST_NUMBERS", "MOST_SMALL_BOUND", "RULE_HEAD", "read_number", "read_many", "read_steps", "READERS", "LINES", "read_word", "read_line", "shown_or_none", "check_small", "do_seen", "do_back", "tell_rule", "tell_next", "tell_row", "tell_jump", "tell_round", "tell_rounds", "tell_one", "tell_fits", "tell_guess", "tell_settled"]
def names2 : List Str := ["ACTIONS", "Desk", "_law_seed", "_law_draw", "_law_cells", "_law_far", "_law_rule", "_law_next", "_law_row", "_law_common", "_law_solved", "_law_fit", "_law_line", "_law_joined", "_law_text", "_law_of_row", "_law_question", "_law_deed"]
def namesK : List Str := names0 ++ names1 ++ names2
def RunK (w : World) : Prop := HandSHeadRun.RunEq Rw (PySem.W.view Rw.prog [86]) hk ob 20000 namesK w
set_option maxHeartbeats 0 in
theorem runF (w : World) : RunK (w.withFollow "special-get-raises" false) := by
  unfold RunK HandSHeadRun.RunEq
  intro os
  kernel_rfl
set_option maxHeartbeats 0 in
theorem runT (w : World) : RunK (w.withFollow "special-get-raises" true) := by
  unfold RunK HandSHeadRun.RunEq
  intro os
  kernel_rfl
theorem run (w : World) : HandSHeadRun.RunEq Rw (PySem.W.view Rw.prog [86]) hk ob 20000 namesK w := PySem.W.byRow2 "special-get-raises" (P := RunK) runF runT w
theorem factsK {w : World} {K : Fr} {h : Heap} {mg : Str → Option Value} {f : Addr} (X : K.In h) (G : h.Ns mainGlobals mg) (hfa : mg ("law" : Str) = some (.ref f)) (c : SaysY faK fnK tsK tfK exK w h K) : LamX.LawAtS PySem.Challenge.rw_timesrow_k39_whole_two_desks w K CX0 14 63 "script" mg f h := by
  have T_is_whole : Top K mg "is_whole" s_is_whole ["thing"] := top_of X G (c.d.def_ 0 (d := dOf "is_whole" s_is_whole) rfl) (c.d.fact 0 (f := .glo "is_whole") rfl) fun _ _ _ _ _ _ us hl => match us, hl with | [_], _ => rfl
  have T_is_number : Top K mg "is_number" s_is_number ["thing", "bound"] := top_of X G (c.d.def_ 1 (d := dOf "is_number" s_is_number) rfl) (c.d.fact 1 (f := .glo "is_number") rfl) fun _ _ _ _ _ _ us hl => match us, hl with | [_, _], _ => rfl
  have T_check_number : Top K mg "check_number" s_check_number ["number", "bound"] := top_of X G (c.d.def_ 2 (d := dOf "check_number" s_check_number) rfl) (c.d.fact 2 (f := .glo "check_number") rfl) fun _ _ _ _ _ _ us hl => match us, hl with | [_, _], _ => rfl
  have T_is_figures : TopC K mg "is_figures" s_is_figures ["word"] (He.cT K ("is_figures", none)).1 := topC_of X G (c.d.def_ 3 (d := dOf "is_figures" s_is_figures) rfl) (c.d.fact 3 (f := .glo "is_figures") rfl) fun _ _ _ _ _ _ us hl => match us, hl with | [_], _ => rfl
  have T_read_rule : TopC K mg "read_rule" s_read_rule ["text"] (He.cT K ("read_rule", none)).1 := topC_of X G (c.d.def_ 4 (d := dOf "read_rule" s_read_rule) rfl) (c.d.fact 4 (f := .glo "read_rule") rfl) fun _ _ _ _ _ _ us hl => match us, hl with | [_], _ => rfl
  have T_read_number : Top K mg "read_number" s_read_number ["word"] := top_of X G (c.d.def_ 5 (d := dOf "read_number" s_read_number) rfl) (c.d.fact 5 (f := .glo "read_number") rfl) fun _ _ _ _ _ _ us hl => match us, hl with | [_], _ => rfl
  have T_read_many : Top K mg "read_many" s_read_many ["word"] := top_of X G (c.d.def_ 6 (d := dOf "read_many" s_read_many) rfl) (c.d.fact 6 (f := .glo "read_many") rfl) fun _ _ _ _ _ _ us hl => match us, hl with | [_], _ => rfl
  have T_read_steps : Top K mg "read_steps" s_read_steps ["word"] := top_of X G (c.d.def_ 7 (d := dOf "read_steps" s_read_steps) rfl) (c.d.fact 7 (f := .glo "read_steps") rfl) fun _ _ _ _ _ _ us hl => match us, hl with | [_], _ => rfl
  have T_read_word : Top K mg "read_word" s_read_word ["kind", "word"] := top_of X G (c.d.def_ 8 (d := dOf "read_word" s_read_word) rfl) (c.d.fact 8 (f := .glo "read_word") rfl) fun _ _ _ _ _ _ us hl => match us, hl with | [_, _], _ => rfl
  have T_read_line : Top K mg "read_line" s_read_line ["words"] := top_of X G (c.d.def_ 9 (d := dOf "read_line" s_read_line) rfl) (c.d.fact 9 (f := .glo "read_line") rfl) fun _ _ _ _ _ _ us hl => match us, hl with | [_], _ => rfl
  have T_rule_shown : Top K mg "rule_shown" s_rule_shown ["rule"] := top_of X G (c.d.def_ 10 (d := dOf "rule_shown" s_rule_shown) rfl) (c.d.fact 10 (f := .glo "rule_shown") rfl) fun _ _ _ _ _ _ us hl => match us, hl with | [_], _ => rfl
  have T_tell_rule : Top K mg "tell_rule" s_tell_rule ["desk", "numbers"] := top_of X G (c.d.def_ 11 (d := dOf "tell_rule" s_tell_rule) rfl) (c.d.fact 11 (f := .glo "tell_rule") rfl) fun _ _ _ _ _ _ us hl => match us, hl with | [_, _], _ => rfl
  have T_next_of : Top K mg "next_of" s_next_of ["rule", "number"] := top_of X G (c.d.def_ 12 (d := dOf "next_of" s_next_of) rfl) (c.d.fact 12 (f := .glo "next_of") rfl) fun _ _ _ _ _ _ us hl => match us, hl with | [_, _], _ => rfl
  have T_tell_next : Top K mg "tell_next" s_tell_next ["desk", "numbers"] := top_of X G (c.d.def_ 13 (d := dOf "tell_next" s_tell_next) rfl) (c.d.fact 13 (f := .glo "tell_next") rfl) fun _ _ _ _ _ _ us hl => match us, hl with | [_, _], _ => rfl
  have T_row_from : Top K mg "row_from" s_row_from ["rule", "start", "many"] := top_of X G (c.d.def_ 14 (d := dOf "row_from" s_row_from) rfl) (c.d.fact 14 (f := .glo "row_from") rfl) fun _ _ _ _ _ _ us hl => match us, hl with | [_, _, _], _ => rfl
  have T_tell_row : Top K mg "tell_row" s_tell_row ["desk", "numbers"] := top_of X G (c.d.def_ 15 (d := dOf "tell_row" s_tell_row) rfl) (c.d.fact 15 (f := .glo "tell_row") rfl) fun _ _ _ _ _ _ us hl => match us, hl with | [_, _], _ => rfl
  have T_chained : Top K mg "chained" s_chained ["first", "second"] := top_of X G (c.d.def_ 16 (d := dOf "chained" s_chained) rfl) (c.d.fact 16 (f := .glo "chained") rfl) fun _ _ _ _ _ _ us hl => match us, hl with | [_, _], _ => rfl
  have T_rule_of_steps : Top K mg "rule_of_steps" s_rule_of_steps ["rule", "steps"] := top_of X G (c.d.def_ 17 (d := dOf "rule_of_steps" s_rule_of_steps) rfl) (c.d.fact 17 (f := .glo "rule_of_steps") rfl) fun _ _ _ _ _ _ us hl => match us, hl with | [_, _], _ => rfl
  have T_common_divisor : Top K mg "common_divisor" s_common_divisor ["one", "other"] := top_of X G (c.d.def_ 18 (d := dOf "common_divisor" s_common_divisor) rfl) (c.d.fact 18 (f := .glo "common_divisor") rfl) fun _ _ _ _ _ _ us hl => match us, hl with | [_, _], _ => rfl
  have T_inverse : Top K mg "inverse" s_inverse ["number", "bound"] := top_of X G (c.d.def_ 19 (d := dOf "inverse" s_inverse) rfl) (c.d.fact 19 (f := .glo "inverse") rfl) fun _ _ _ _ _ _ us hl => match us, hl with | [_, _], _ => rfl
  have T_rule_back : Top K mg "rule_back" s_rule_back ["rule"] := top_of X G (c.d.def_ 20 (d := dOf "rule_back" s_rule_back) rfl) (c.d.fact 20 (f := .glo "rule_back") rfl) fun _ _ _ _ _ _ us hl => match us, hl with | [_], _ => rfl
  have T_jumped : Top K mg "jumped" s_jumped ["rule", "start", "steps"] := top_of X G (c.d.def_ 21 (d := dOf "jumped" s_jumped) rfl) (c.d.fact 21 (f := .glo "jumped") rfl) fun _ _ _ _ _ _ us hl => match us, hl with | [_, _, _], _ => rfl
  have T_tell_jump : Top K mg "tell_jump" s_tell_jump ["desk", "numbers"] := top_of X G (c.d.def_ 22 (d := dOf "tell_jump" s_tell_jump) rfl) (c.d.fact 22 (f := .glo "tell_jump") rfl) fun _ _ _ _ _ _ us hl => match us, hl with | [_, _], _ => rfl
  have T_check_small : Top K mg "check_small" s_check_small ["rule"] := top_of X G (c.d.def_ 23 (d := dOf "check_small" s_check_small) rfl) (c.d.fact 23 (f := .glo "check_small") rfl) fun _ _ _ _ _ _ us hl => match us, hl with | [_], _ => rfl
  have T_walked_on : Top K mg "walked_on" s_walked_on ["rule", "start", "places"] := top_of X G (c.d.def_ 24 (d := dOf "walked_on" s_walked_on) rfl) (c.d.fact 24 (f := .glo "walked_on") rfl) fun _ _ _ _ _ _ us hl => match us, hl with | [_, _, _], _ => rfl
  have T_round_from : Top K mg "round_from" s_round_from ["rule", "start"] := top_of X G (c.d.def_ 25 (d := dOf "round_from" s_round_from) rfl) (c.d.fact 25 (f := .glo "round_from") rfl) fun _ _ _ _ _ _ us hl => match us, hl with | [_, _], _ => rfl
  have T_tell_round : Top K mg "tell_round" s_tell_round ["desk", "numbers"] := top_of X G (c.d.def_ 26 (d := dOf "tell_round" s_tell_round) rfl) (c.d.fact 26 (f := .glo "tell_round") rfl) fun _ _ _ _ _ _ us hl => match us, hl with | [_, _], _ => rfl
  have T_all_rounds : Top K mg "all_rounds" s_all_rounds ["rule"] := top_of X G (c.d.def_ 27 (d := dOf "all_rounds" s_all_rounds) rfl) (c.d.fact 27 (f := .glo "all_rounds") rfl) fun _ _ _ _ _ _ us hl => match us, hl with | [_], _ => rfl
  have T_tell_rounds : Top K mg "tell_rounds" s_tell_rounds ["desk", "numbers"] := top_of X G (c.d.def_ 28 (d := dOf "tell_rounds" s_tell_rounds) rfl) (c.d.fact 28 (f := .glo "tell_rounds") rfl) fun _ _ _ _ _ _ us hl => match us, hl with | [_, _], _ => rfl
  have T_has_each_prime_of : Top K mg "has_each_prime_of" s_has_each_prime_of ["bound", "number"] := top_of X G (c.d.def_ 29 (d := dOf "has_each_prime_of" s_has_each_prime_of) rfl) (c.d.fact 29 (f := .glo "has_each_prime_of") rfl) fun _ _ _ _ _ _ us hl => match us, hl with | [_, _], _ => rfl
  have T_is_one_round : Top K mg "is_one_round" s_is_one_round ["rule"] := top_of X G (c.d.def_ 30 (d := dOf "is_one_round" s_is_one_round) rfl) (c.d.fact 30 (f := .glo "is_one_round") rfl) fun _ _ _ _ _ _ us hl => match us, hl with | [_], _ => rfl
  have T_tell_one : Top K mg "tell_one" s_tell_one ["desk", "numbers"] := top_of X G (c.d.def_ 31 (d := dOf "tell_one" s_tell_one) rfl) (c.d.fact 31 (f := .glo "tell_one") rfl) fun _ _ _ _ _ _ us hl => match us, hl with | [_, _], _ => rfl
  have T_before : Top K mg "before" s_before ["rule", "number"] := top_of X G (c.d.def_ 32 (d := dOf "before" s_before) rfl) (c.d.fact 32 (f := .glo "before") rfl) fun _ _ _ _ _ _ us hl => match us, hl with | [_, _], _ => rfl
  have T_gaps_of : Top K mg "gaps_of" s_gaps_of ["row"] := top_of X G (c.d.def_ 33 (d := dOf "gaps_of" s_gaps_of) rfl) (c.d.fact 33 (f := .glo "gaps_of") rfl) fun _ _ _ _ _ _ us hl => match us, hl with | [_], _ => rfl
  have T_narrowed : Top K mg "narrowed" s_narrowed ["fit", "gap", "later", "bound"] := top_of X G (c.d.def_ 34 (d := dOf "narrowed" s_narrowed) rfl) (c.d.fact 34 (f := .glo "narrowed") rfl) fun _ _ _ _ _ _ us hl => match us, hl with | [_, _, _, _], _ => rfl
  have T_fits_on_the_way : Top K mg "fits_on_the_way" s_fits_on_the_way ["row", "bound"] := top_of X G (c.d.def_ 35 (d := dOf "fits_on_the_way" s_fits_on_the_way) rfl) (c.d.fact 35 (f := .glo "fits_on_the_way") rfl) fun _ _ _ _ _ _ us hl => match us, hl with | [_, _], _ => rfl
  have T_times_that_fit : Top K mg "times_that_fit" s_times_that_fit ["row", "bound"] := top_of X G (c.d.def_ 36 (d := dOf "times_that_fit" s_times_that_fit) rfl) (c.d.fact 36 (f := .glo "times_that_fit") rfl) fun _ _ _ _ _ _ us hl => match us, hl with | [_, _], _ => rfl
  have T_rules_that_fit : Top K mg "rules_that_fit" s_rules_that_fit ["row", "bound", "many"] := top_of X G (c.d.def_ 37 (d := dOf "rules_that_fit" s_rules_that_fit) rfl) (c.d.fact 37 (f := .glo "rules_that_fit") rfl) fun _ _ _ _ _ _ us hl => match us, hl with | [_, _, _], _ => rfl
  have T_settled_by : Top K mg "settled_by" s_settled_by ["row", "bound"] := top_of X G (c.d.def_ 38 (d := dOf "settled_by" s_settled_by) rfl) (c.d.fact 38 (f := .glo "settled_by") rfl) fun _ _ _ _ _ _ us hl => match us, hl with | [_, _], _ => rfl
  have T_number_behind : Top K mg "number_behind" s_number_behind ["row", "bound"] := top_of X G (c.d.def_ 39 (d := dOf "number_behind" s_number_behind) rfl) (c.d.fact 39 (f := .glo "number_behind") rfl) fun _ _ _ _ _ _ us hl => match us, hl with | [_, _], _ => rfl
  have T_shown_or_none : Top K mg "shown_or_none" s_shown_or_none ["number"] := top_of X G (c.d.def_ 40 (d := dOf "shown_or_none" s_shown_or_none) rfl) (c.d.fact 40 (f := .glo "shown_or_none") rfl) fun _ _ _ _ _ _ us hl => match us, hl with | [_], _ => rfl
  have T_do_seen : Top K mg "do_seen" s_do_seen ["desk", "numbers"] := top_of X G (c.d.def_ 41 (d := dOf "do_seen" s_do_seen) rfl) (c.d.fact 41 (f := .glo "do_seen") rfl) fun _ _ _ _ _ _ us hl => match us, hl with | [_, _], _ => rfl
  have T_do_back : Top K mg "do_back" s_do_back ["desk", "numbers"] := top_of X G (c.d.def_ 42 (d := dOf "do_back" s_do_back) rfl) (c.d.fact 42 (f := .glo "do_back") rfl) fun _ _ _ _ _ _ us hl => match us, hl with | [_, _], _ => rfl
  have T_tell_fits : Top K mg "tell_fits" s_tell_fits ["desk", "numbers"] := top_of X G (c.d.def_ 43 (d := dOf "tell_fits" s_tell_fits) rfl) (c.d.fact 43 (f := .glo "tell_fits") rfl) fun _ _ _ _ _ _ us hl => match us, hl with | [_, _], _ => rfl
  have T_tell_guess : Top K mg "tell_guess" s_tell_guess ["desk", "numbers"] := top_of X G (c.d.def_ 44 (d := dOf "tell_guess" s_tell_guess) rfl) (c.d.fact 44 (f := .glo "tell_guess") rfl) fun _ _ _ _ _ _ us hl => match us, hl with | [_, _], _ => rfl
  have T_tell_settled : Top K mg "tell_settled" s_tell_settled ["desk", "numbers"] := top_of X G (c.d.def_ 45 (d := dOf "tell_settled" s_tell_settled) rfl) (c.d.fact 45 (f := .glo "tell_settled") rfl) fun _ _ _ _ _ _ us hl => match us, hl with | [_, _], _ => rfl
  have T_seed : Top K mg "_law_seed" s_seed ["cell"] := top_of X G (c.d.def_ 46 (d := dOf "_law_seed" s_seed) rfl) (c.d.fact 46 (f := .glo "_law_seed") rfl) fun _ _ _ _ _ _ us hl => match us, hl with | [_], _ => rfl
  have T_draw : Top K mg "_law_draw" s_draw ["seed", "most"] := top_of X G (c.d.def_ 47 (d := dOf "_law_draw" s_draw) rfl) (c.d.fact 47 (f := .glo "_law_draw") rfl) fun _ _ _ _ _ _ us hl => match us, hl with | [_, _], _ => rfl
  have T_cells : Top K mg "_law_cells" s_cells ["script", "many"] := top_of X G (c.d.def_ 48 (d := dOf "_law_cells" s_cells) rfl) (c.d.fact 48 (f := .glo "_law_cells") rfl) fun _ _ _ _ _ _ us hl => match us, hl with | [_, _], _ => rfl
  have T_far : Top K mg "_law_far" s_far ["seed", "most"] := top_of X G (c.d.def_ 49 (d := dOf "_law_far" s_far) rfl) (c.d.fact 49 (f := .glo "_law_far") rfl) fun _ _ _ _ _ _ us hl => match us, hl with | [_, _], _ => rfl
  have T_rule : Top K mg "_law_rule" s_rule ["seed", "most"] := top_of X G (c.d.def_ 50 (d := dOf "_law_rule" s_rule) rfl) (c.d.fact 50 (f := .glo "_law_rule") rfl) fun _ _ _ _ _ _ us hl => match us, hl with | [_, _], _ => rfl
  have T_next : Top K mg "_law_next" s_next ["rule", "number"] := top_of X G (c.d.def_ 51 (d := dOf "_law_next" s_next) rfl) (c.d.fact 51 (f := .glo "_law_next") rfl) fun _ _ _ _ _ _ us hl => match us, hl with | [_, _], _ => rfl
  have T_line : Top K mg "_law_line" s_line ["rule"] := top_of X G (c.d.def_ 52 (d := dOf "_law_line" s_line) rfl) (c.d.fact 52 (f := .glo "_law_line") rfl) fun _ _ _ _ _ _ us hl => match us, hl with | [_], _ => rfl
  have T_joined : Top K mg "_law_joined" s_joined ["numbers"] := top_of X G (c.d.def_ 53 (d := dOf "_law_joined" s_joined) rfl) (c.d.fact 53 (f := .glo "_law_joined") rfl) fun _ _ _ _ _ _ us hl => match us, hl with | [_], _ => rfl
  have T_text : Top K mg "_law_text" s_text ["number"] := top_of X G (c.d.def_ 54 (d := dOf "_law_text" s_text) rfl) (c.d.fact 54 (f := .glo "_law_text") rfl) fun _ _ _ _ _ _ us hl => match us, hl with | [_], _ => rfl
  have T_of_row : Top K mg "_law_of_row" s_of_row ["way", "row", "bound"] := top_of X G (c.d.def_ 55 (d := dOf "_law_of_row" s_of_row) rfl) (c.d.fact 55 (f := .glo "_law_of_row") rfl) fun _ _ _ _ _ _ us hl => match us, hl with | [_, _, _], _ => rfl
  have T_question : Top K mg "_law_question" s_question ["seed", "rule", "row"] := top_of X G (c.d.def_ 56 (d := dOf "_law_question" s_question) rfl) (c.d.fact 56 (f := .glo "_law_question") rfl) fun _ _ _ _ _ _ us hl => match us, hl with | [_, _, _], _ => rfl
  have T_deed : Top K mg "_law_deed" s_deed ["seed", "rule", "row"] := top_of X G (c.d.def_ 57 (d := dOf "_law_deed" s_deed) rfl) (c.d.fact 57 (f := .glo "_law_deed") rfl) fun _ _ _ _ _ _ us hl => match us, hl with | [_, _, _], _ => rfl
  have z_len := He.free_ok X G (c.d.fact 59 (f := .free "len") rfl)
  have z_range := He.free_ok X G (c.d.fact 60 (f := .free "range") rfl)
  have z_isinstance := He.free_ok X G (c.d.fact 61 (f := .free "isinstance") rfl)
  have z_int := He.free_ok X G (c.d.fact 62 (f := .free "int") rfl)
  have z_bool := He.free_ok X G (c.d.fact 63 (f := .free "bool") rfl)
  have z_tuple := He.free_ok X G (c.d.fact 64 (f := .free "tuple") rfl)
  have z_str := He.free_ok X G (c.d.fact 65 (f := .free "str") rfl)
  have z_all := He.free_ok X G (c.d.fact 66 (f := .free "all") rfl)
  have z_zip := He.free_ok X G (c.d.fact 67 (f := .free "zip") rfl)
  have z_sorted := He.free_ok X G (c.d.fact 68 (f := .free "sorted") rfl)
  have z_enumerate := He.free_ok X G (c.d.fact 69 (f := .free "enumerate") rfl)
  have z_max := He.free_ok X G (c.d.fact 70 (f := .free "max") rfl)
  have z_min := He.free_ok X G (c.d.fact 71 (f := .free "min") rfl)
  have G_CR := He.glo_ok X G (c.d.fact 72 (f := .glo "RowError") rfl)
  have G_CU := He.glo_ok X G (c.d.fact 73 (f := .glo "NoRule") rfl)
  have G_CB := He.glo_ok X G (c.d.fact 74 (f := .glo "NoBack") rfl)
  have G_CF := He.glo_ok X G (c.d.fact 75 (f := .glo "NoFit") rfl)
  have G_CA := He.glo_ok X G (c.d.fact 76 (f := .glo "NoAsk") rfl)
  have G_CN := He.glo_ok X G (c.d.fact 77 (f := .glo "NoNumber") rfl)
  have GK_KeptRow := He.glo_ok X G (c.d.fact 78 (f := .glo "KeptRow") rfl)
  have GK_Desk := He.glo_ok X G (c.d.fact 79 (f := .glo "Desk") rfl)
  obtain ⟨iI, tI0, _⟩ := He.meth_ok (c.d.fact 80 (f := .meth "NoNumber" "__init__") rfl)
  have tI := beq_iff_eq.mp tI0
  have nf : PySem.W.findIn K (.ref (He.ga K "NoNumber")) "number" = some none := He.noat_ok (c.d.fact 81 (f := .noat "NoNumber" "number") rfl)
  obtain ⟨fdI, FI0⟩ := c.d.def_ 59 (d := mOf "NoNumber" "__init__" "NoNumber.__init__" s_init) rfl
  have FI := fun_of (x := "__init__") (q := "NoNumber.__init__") (st := s_init) FI0
  have bI := FI.binds (ps := ["self", "number"]) fun _ _ _ _ _ _ us hl => match us, hl with | [_, _], _ => rfl
  obtain ⟨wCAx, wCAk, wCAs, wCAy⟩ := He.exc_ok (c.d.fact 82 (f := .exc "NoAsk") rfl)
  obtain ⟨wCUx, wCUk, wCUs, wCUy⟩ := He.exc_ok (c.d.fact 83 (f := .exc "NoRule") rfl)
  obtain ⟨wCBx, wCBk, wCBs, wCBy⟩ := He.exc_ok (c.d.fact 84 (f := .exc "NoBack") rfl)
  obtain ⟨wCFx, wCFk, wCFs, wCFy⟩ := He.exc_ok (c.d.fact 85 (f := .exc "NoFit") rfl)
  obtain ⟨tok_FIGURES, g_FIGURES⟩ := He.str_ok X G (c.d.fact 86 (f := .str "FIGURES" "0123456789") rfl)
  obtain ⟨tok_RULE_HEAD, g_RULE_HEAD⟩ := He.str_ok X G (c.d.fact 87 (f := .str "RULE_HEAD" "rule ") rfl)
  obtain ⟨tok_MOST_FIGURES, g_MOST_FIGURES⟩ := He.int_ok X G (c.d.fact 88 (f := .int "MOST_FIGURES" 19) rfl)
  obtain ⟨tok_MOST_NUMBERS, g_MOST_NUMBERS⟩ := He.int_ok X G (c.d.fact 89 (f := .int "MOST_NUMBERS" 60) rfl)
  obtain ⟨tok_MOST_SMALL_BOUND, g_MOST_SMALL_BOUND⟩ := He.int_ok X G (c.d.fact 90 (f := .int "MOST_SMALL_BOUND" 2000) rfl)
  have g_READERS := He.glo_ok X G (c.d.fact 91 (f := .glo "READERS") rfl)
  have g_LINES := He.glo_ok X G (c.d.fact 92 (f := .glo "LINES") rfl)
  have g_ACTIONS := He.glo_ok X G (c.d.fact 93 (f := .glo "ACTIONS") rfl)
  have CK_KeptRow := He.cls_ok (c.d.fact 94 (f := .cls "KeptRow") rfl)
  have MK_KeptRow := He.mkr_ok (c.d.fact 95 (f := .mkr "KeptRow") rfl)
  have no_KeptRow_bound := He.noat_ok (c.d.fact 96 (f := .noat "KeptRow" "bound") rfl)
  have no_KeptRow_numbers := He.noat_ok (c.d.fact 97 (f := .noat "KeptRow" "numbers") rfl)
  obtain ⟨fdM_kinit, FM0_kinit⟩ := c.d.def_ 60 (d := mOf "KeptRow" "__init__" "KeptRow.__init__" s_kinit) rfl
  have FM_kinit := fun_of (x := "__init__") (q := "KeptRow.__init__") (st := s_kinit) FM0_kinit
  have BM_kinit := FM_kinit.binds (ps := ["self", "bound"]) fun _ _ _ _ _ _ us hl => match us, hl with | [_, _], _ => rfl
  obtain ⟨fdM_row_now, FM0_row_now⟩ := c.d.def_ 61 (d := mOf "KeptRow" "row_now" "KeptRow.row_now" s_row_now) rfl
  have FM_row_now := fun_of (x := "row_now") (q := "KeptRow.row_now") (st := s_row_now) FM0_row_now
  have BM_row_now := FM_row_now.binds (ps := ["self"]) fun _ _ _ _ _ _ us hl => match us, hl with | [_], _ => rfl
  have MM_row_now := He.meth_ok (c.d.fact 98 (f := .meth "KeptRow" "row_now") rfl)
  have TM_row_now : TopM K (He.ga K "KeptRow") "row_now" "KeptRow.row_now" s_row_now ["self"] := ⟨_, _, FM_row_now, MM_row_now, BM_row_now⟩
  obtain ⟨fdM_see, FM0_see⟩ := c.d.def_ 62 (d := mOf "KeptRow" "see" "KeptRow.see" s_see) rfl
  have FM_see := fun_of (x := "see") (q := "KeptRow.see") (st := s_see) FM0_see
  have BM_see := FM_see.binds (ps := ["self", "number"]) fun _ _ _ _ _ _ us hl => match us, hl with | [_, _], _ => rfl
  have MM_see := He.meth_ok (c.d.fact 99 (f := .meth "KeptRow" "see") rfl)
  have TM_see : TopM K (He.ga K "KeptRow") "see" "KeptRow.see" s_see ["self", "number"] := ⟨_, _, FM_see, MM_see, BM_see⟩
  obtain ⟨fdM_take_back, FM0_take_back⟩ := c.d.def_ 63 (d := mOf "KeptRow" "take_back" "KeptRow.take_back" s_take_back) rfl
  have FM_take_back := fun_of (x := "take_back") (q := "KeptRow.take_back") (st := s_take_back) FM0_take_back
  have BM_take_back := FM_take_back.binds (ps := ["self"]) fun _ _ _ _ _ _ us hl => match us, hl with | [_], _ => rfl
  have MM_take_back := He.meth_ok (c.d.fact 100 (f := .meth "KeptRow" "take_back") rfl)
  have TM_take_back : TopM K (He.ga K "KeptRow") "take_back" "KeptRow.take_back" s_take_back ["self"] := ⟨_, _, FM_take_back, MM_take_back, BM_take_back⟩
  obtain ⟨fdM_fit_now, FM0_fit_now⟩ := c.d.def_ 64 (d := mOf "KeptRow" "fit_now" "KeptRow.fit_now" s_fit_now) rfl
  have FM_fit_now := fun_of (x := "fit_now") (q := "KeptRow.fit_now") (st := s_fit_now) FM0_fit_now
  have BM_fit_now := FM_fit_now.binds (ps := ["self"]) fun _ _ _ _ _ _ us hl => match us, hl with | [_], _ => rfl
  have MM_fit_now := He.meth_ok (c.d.fact 101 (f := .meth "KeptRow" "fit_now") rfl)
  have TM_fit_now : TopM K (He.ga K "KeptRow") "fit_now" "KeptRow.fit_now" s_fit_now ["self"] := ⟨_, _, FM_fit_now, MM_fit_now, BM_fit_now⟩
  obtain ⟨fdM_guess_now, FM0_guess_now⟩ := c.d.def_ 65 (d := mOf "KeptRow" "guess_now" "KeptRow.guess_now" s_guess_now) rfl
  have FM_guess_now := fun_of (x := "guess_now") (q := "KeptRow.guess_now") (st := s_guess_now) FM0_guess_now
  have BM_guess_now := FM_guess_now.binds (ps := ["self"]) fun _ _ _ _ _ _ us hl => match us, hl with | [_], _ => rfl
  have MM_guess_now := He.meth_ok (c.d.fact 102 (f := .meth "KeptRow" "guess_now") rfl)
  have TM_guess_now : TopM K (He.ga K "KeptRow") "guess_now" "KeptRow.guess_now" s_guess_now ["self"] := ⟨_, _, FM_guess_now, MM_guess_now, BM_guess_now⟩
  have CK_Desk := He.cls_ok (c.d.fact 103 (f := .cls "Desk") rfl)
  have MK_Desk := He.mkr_ok (c.d.fact 104 (f := .mkr "Desk") rfl)
  have no_Desk_rule := He.noat_ok (c.d.fact 105 (f := .noat "Desk" "rule") rfl)
  have no_Desk_kept := He.noat_ok (c.d.fact 106 (f := .noat "Desk" "kept") rfl)
  obtain ⟨fdM_dinit, FM0_dinit⟩ := c.d.def_ 66 (d := mOf "Desk" "__init__" "Desk.__init__" s_dinit) rfl
  have FM_dinit := fun_of (x := "__init__") (q := "Desk.__init__") (st := s_dinit) FM0_dinit
  have BM_dinit := FM_dinit.binds (ps := ["self"]) fun _ _ _ _ _ _ us hl => match us, hl with | [_], _ => rfl
  obtain ⟨fdM_ask, FM0_ask⟩ := c.d.def_ 67 (d := mOf "Desk" "ask" "Desk.ask" s_ask) rfl
  have FM_ask := fun_of (x := "ask") (q := "Desk.ask") (st := s_ask) FM0_ask
  have BM_ask := FM_ask.binds (ps := ["self", "line"]) fun _ _ _ _ _ _ us hl => match us, hl with | [_, _], _ => rfl
  have MM_ask := He.meth_ok (c.d.fact 107 (f := .meth "Desk" "ask") rfl)
  have TM_ask : TopM K (He.ga K "Desk") "ask" "Desk.ask" s_ask ["self", "line"] := ⟨_, _, FM_ask, MM_ask, BM_ask⟩
  obtain ⟨fdM_take_rule, FM0_take_rule⟩ := c.d.def_ 68 (d := mOf "Desk" "take_rule" "Desk.take_rule" s_take_rule) rfl
  have FM_take_rule := fun_of (x := "take_rule") (q := "Desk.take_rule") (st := s_take_rule) FM0_take_rule
  have BM_take_rule := FM_take_rule.binds (ps := ["self", "text"]) fun _ _ _ _ _ _ us hl => match us, hl with | [_, _], _ => rfl
  have MM_take_rule := He.meth_ok (c.d.fact 108 (f := .meth "Desk" "take_rule") rfl)
  have TM_take_rule : TopM K (He.ga K "Desk") "take_rule" "Desk.take_rule" s_take_rule ["self", "text"] := ⟨_, _, FM_take_rule, MM_take_rule, BM_take_rule⟩
  obtain ⟨es_READERS, n_READERS, kd_READERS⟩ := c.t.tab 0 (t := (fun K => He.ga K "READERS", ["NUMBER", "START", "MANY", "STEPS"])) rfl
  obtain ⟨es_LINES, n_LINES, kd_LINES⟩ := c.t.tab 1 (t := (fun K => He.ga K "LINES", ["seen", "back", "show", "next", "row", "jump", "round", "rounds", "one", "fits", "guess", "settled"])) rfl
  obtain ⟨es_ACTIONS, n_ACTIONS, kd_ACTIONS⟩ := c.t.tab 2 (t := (fun K => He.ga K "ACTIONS", ["seen", "back", "show", "next", "row", "jump", "round", "rounds", "one", "fits", "guess", "settled"])) rfl
  have ex0 := c.more
  obtain ⟨e0, ex0⟩ := He.ba ex0
  obtain ⟨e1, ex0⟩ := He.ba ex0
  obtain ⟨e2, ex0⟩ := He.ba ex0
  obtain ⟨e3, ex0⟩ := He.ba ex0
  obtain ⟨e4, ex0⟩ := He.ba ex0
  obtain ⟨e5, ex0⟩ := He.ba ex0
  obtain ⟨e6, ex0⟩ := He.ba ex0
  obtain ⟨e7, ex0⟩ := He.ba ex0
  obtain ⟨e8, ex0⟩ := He.ba ex0
  obtain ⟨e9, ex0⟩ := He.ba ex0
  obtain ⟨e10, ex0⟩ := He.ba ex0
  obtain ⟨e11, ex0⟩ := He.ba ex0
  obtain ⟨e12, ex0⟩ := He.ba ex0
  obtain ⟨e13, ex0⟩ := He.ba ex0
  obtain ⟨e14, ex0⟩ := He.ba ex0
  obtain ⟨e15, ex0⟩ := He.ba ex0
  have e16 := ex0
  obtain ⟨ox0, rd0⟩ := He.ba e0
  have ox := oexB_ok ox0
  obtain ⟨RI, ri⟩ := rdB_ok rd0
  obtain ⟨fdL, FL0⟩ := c.d.def_ 58 (d := dOf "law" s_law) rfl
  have FL := fun_of (x := "law") (q := "law") (st := s_law) FL0
  have eL := hfa.symm.trans (He.glo_ok X G (c.d.fact 58 (f := .glo "law") rfl))
  cases eL
  have bL := FunD.bindsA (ps := ["script"]) (K := K) (x := "law") (qual := "law") (params := defArgs s_law) (body := defBody s_law) (scope := defScope s_law) (kws := []) FL0 fun _ _ _ _ _ _ us hl => match us, hl with | [_], _ => rfl
  refine ⟨fdL, tfK.map (He.cT K), spLaw39 K (He.cT K ("read_rule", none)).2 (He.cT K ("is_figures", none)).2, fun p hp => ?_, fun p hp => ?_, fun p hp => ?_, fun s v => bL s [v] rfl, ?_, fun base KB GB TB => ?fn⟩
  · obtain ⟨d, hd, rfl⟩ := List.mem_map.mp hp; exact c.empty d hd
  · obtain ⟨d, hd, rfl⟩ := List.mem_map.mp hp; exact c.out d hd
  · obtain ⟨d, hd, rfl⟩ := List.mem_map.mp hp; exact PySem.W.codeHd_of_K X (c.hd d hd)
  rotate_left
  have TB_is_figures := tabB_of (TB (He.cT K ("is_figures", none)) (List.mem_map.mpr ⟨_, by unfold tfK; simp, rfl⟩))
  have TB_read_rule := tabB_of (TB (He.cT K ("read_rule", none)) (List.mem_map.mpr ⟨_, by unfold tfK; simp, rfl⟩))

  · have p12 := of_decide_eq_true e1
    have TD : DTx K mg (He.ga K "Desk") := ⟨CK_Desk, no_Desk_rule, no_Desk_kept, GK_Desk⟩
    have TKk : KTx K mg (He.ga K "KeptRow") := ⟨CK_KeptRow, no_KeptRow_bound, no_KeptRow_numbers, GK_KeptRow⟩
    have o_init := ok_init (P := (PySem.Challenge.rw_timesrow_k39_whole_two_desks).prog) (w := w) (base := base) FI G_CR RI ri
    have o_kinit := ok_kinit (P := (PySem.Challenge.rw_timesrow_k39_whole_two_desks).prog) (w := w) (base := base) FM_kinit TKk MK_KeptRow BM_kinit
    have o_dinit := ok_dinit FM_dinit TD MK_Desk BM_dinit GK_KeptRow o_kinit
    have o_whole := ok_is_whole (P := (PySem.Challenge.rw_timesrow_k39_whole_two_desks).prog) (w := w) (base := base) T_is_whole z_isinstance z_int z_bool
    have o_isnum := ok_is_number T_is_number o_whole
    have o_check := ok_check_number T_check_number o_isnum ox iI tI o_init bI G_CN nf
    have o_fig := ok_is_figures (P := (PySem.Challenge.rw_timesrow_k39_whole_two_desks).prog) (w := w) T_is_figures TB_is_figures g_FIGURES z_all
    have o_read := ok_read_rule T_read_rule TB_read_rule p12 o_fig z_all z_isinstance z_str z_len z_int wCUx G_CU wCUk wCUs wCUy
    have o_rn := ok_read_number T_read_number p12 o_fig z_len z_int g_MOST_FIGURES wCAx G_CA wCAk wCAs wCAy
    have o_rm := ok_read_many T_read_many o_rn g_MOST_NUMBERS wCAx G_CA wCAk wCAs wCAy
    have o_rs := ok_read_steps T_read_steps o_rn wCAx G_CA wCAk wCAs wCAy
    have o_rw := ok_read_word (P := (PySem.Challenge.rw_timesrow_k39_whole_two_desks).prog) (w := w) (base := base) T_read_word g_READERS kd_READERS
    have o_rl := ok_read_line (P1 := (He.cT K ("read_rule", none)).2) (P2 := (He.cT K ("is_figures", none)).2) T_read_line g_LINES kd_LINES o_rw z_len z_zip wCAx G_CA wCAk wCAs wCAy
    have o_shown := ok_rule_shown (P := (PySem.Challenge.rw_timesrow_k39_whole_two_desks).prog) (w := w) (base := base) T_rule_shown
    have o_tr := ok_tell_rule (CK := He.ga K "KeptRow") (P1 := (He.cT K ("read_rule", none)).2) (P2 := (He.cT K ("is_figures", none)).2) T_tell_rule TD o_shown
    have o_nextof := ok_next_of T_next_of o_check
    have o_tn := ok_tell_next (CK := He.ga K "KeptRow") (P1 := (He.cT K ("read_rule", none)).2) (P2 := (He.cT K ("is_figures", none)).2) T_tell_next TD o_nextof z_str
    have o_rf := ok_row_from T_row_from o_check o_nextof z_range z_tuple
    have o_tw := ok_tell_row (CK := He.ga K "KeptRow") (P1 := (He.cT K ("read_rule", none)).2) (P2 := (He.cT K ("is_figures", none)).2) T_tell_row TD o_rf z_str
    have o_chained := ok_chained (P := (PySem.Challenge.rw_timesrow_k39_whole_two_desks).prog) (w := w) (base := base) T_chained
    have o_ros := ok_rule_of_steps T_rule_of_steps o_chained
    have o_gcd := ok_common_divisor (P := (PySem.Challenge.rw_timesrow_k39_whole_two_desks).prog) (w := w) (base := base) T_common_divisor
    have o_inv := ok_inverse (P := (PySem.Challenge.rw_timesrow_k39_whole_two_desks).prog) (w := w) (base := base) T_inverse
    have o_rb := ok_rule_back T_rule_back o_gcd o_inv wCBx G_CB wCBk wCBs wCBy
    have o_jump := ok_jumped T_jumped o_check o_nextof o_ros o_rb
    have o_tj := ok_tell_jump (CK := He.ga K "KeptRow") (P1 := (He.cT K ("read_rule", none)).2) (P2 := (He.cT K ("is_figures", none)).2) T_tell_jump TD o_jump z_str
    have o_small := ok_check_small (P := (PySem.Challenge.rw_timesrow_k39_whole_two_desks).prog) (w := w) (base := base) T_check_small g_MOST_SMALL_BOUND wCAx G_CA wCAk wCAs wCAy
    have o_walk := ok_walked_on T_walked_on o_nextof z_len
    have o_rnd := ok_round_from T_round_from o_check o_walk z_len
    have o_tro := ok_tell_round (CK := He.ga K "KeptRow") (P1 := (He.cT K ("read_rule", none)).2) (P2 := (He.cT K ("is_figures", none)).2) T_tell_round TD o_small o_rnd
    have o_all := ok_all_rounds T_all_rounds o_walk z_len z_range z_tuple z_sorted
    have o_trs := ok_tell_rounds (CK := He.ga K "KeptRow") (P1 := (He.cT K ("read_rule", none)).2) (P2 := (He.cT K ("is_figures", none)).2) T_tell_rounds TD o_small o_all
    have o_each := ok_has_each T_has_each_prime_of o_gcd
    have o_one := ok_is_one_round T_is_one_round o_gcd o_each
    have o_to := ok_tell_one (CK := He.ga K "KeptRow") (P1 := (He.cT K ("read_rule", none)).2) (P2 := (He.cT K ("is_figures", none)).2) T_tell_one TD o_one
    have o_bef := ok_before T_before o_check o_gcd o_inv
    have o_gaps := ok_gaps_of (P := (PySem.Challenge.rw_timesrow_k39_whole_two_desks).prog) (w := w) (base := base) T_gaps_of z_zip
    have o_narrow := ok_narrowed T_narrowed o_bef
    have o_fits := ok_fits_on_the_way T_fits_on_the_way o_check o_gaps o_narrow z_zip
    have o_times := ok_times_that_fit T_times_that_fit o_fits
    have o_rules := ok_rules_that_fit T_rules_that_fit o_times z_len z_min z_range
    have o_sett := ok_settled_by T_settled_by o_fits z_len
    have o_beh := ok_number_behind T_number_behind o_rules o_nextof z_len wCFx G_CF wCFk wCFs wCFy
    have o_row_now := ok_row_now (P := (PySem.Challenge.rw_timesrow_k39_whole_two_desks).prog) (w := w) (base := base) TM_row_now TKk z_tuple
    have o_see := ok_see TM_see TKk o_check o_times o_row_now wCFx G_CF wCFk wCFs wCFy
    have o_takeb := ok_take_back (P := (PySem.Challenge.rw_timesrow_k39_whole_two_desks).prog) (w := w) (base := base) TM_take_back TKk z_len wCFx G_CF wCFk wCFs wCFy
    have o_fit_now := ok_fit_now TM_fit_now TKk o_times o_row_now z_len
    have o_guess_now := ok_guess_now TM_guess_now TKk o_beh o_row_now z_len
    have o_son := ok_shown_or_none (P := (PySem.Challenge.rw_timesrow_k39_whole_two_desks).prog) (w := w) (base := base) T_shown_or_none z_str
    have o_dseen := ok_do_seen T_do_seen TD TKk o_row_now o_see z_len g_MOST_NUMBERS wCAx G_CA wCAk wCAs wCAy
    have o_dback := ok_do_back T_do_back TD TKk o_takeb
    have o_tf := ok_tell_fits (P1 := (He.cT K ("read_rule", none)).2) (P2 := (He.cT K ("is_figures", none)).2) T_tell_fits TD TKk o_fit_now
    have o_tg := ok_tell_guess (P1 := (He.cT K ("read_rule", none)).2) (P2 := (He.cT K ("is_figures", none)).2) T_tell_guess TD TKk o_guess_now o_son
    have o_ts := ok_tell_settled (P1 := (He.cT K ("read_rule", none)).2) (P2 := (He.cT K ("is_figures", none)).2) T_tell_settled TD TKk o_row_now o_sett o_son z_len
    have o_take := ok_take_rule TM_take_rule TD GK_KeptRow o_kinit o_read
    have o_ask := ok_ask (dR := He.ga K "READERS") TM_ask TD o_take o_rl g_ACTIONS kd_ACTIONS g_RULE_HEAD z_len
    have eR_NUMBER := ent_of e2 (q := ("NUMBER", .glo "read_number")) (by simp)
    have eR_START := ent_of e2 (q := ("START", .glo "read_number")) (by simp)
    have eR_MANY := ent_of e2 (q := ("MANY", .glo "read_many")) (by simp)
    have eR_STEPS := ent_of e2 (q := ("STEPS", .glo "read_steps")) (by simp)
    have g_do_back := He.glo_ok X G (c.d.fact 42 (f := .glo "do_back") rfl)
    have g_do_seen := He.glo_ok X G (c.d.fact 41 (f := .glo "do_seen") rfl)
    have g_read_many := He.glo_ok X G (c.d.fact 6 (f := .glo "read_many") rfl)
    have g_read_number := He.glo_ok X G (c.d.fact 5 (f := .glo "read_number") rfl)
    have g_read_steps := He.glo_ok X G (c.d.fact 7 (f := .glo "read_steps") rfl)
    have g_tell_fits := He.glo_ok X G (c.d.fact 43 (f := .glo "tell_fits") rfl)
    have g_tell_guess := He.glo_ok X G (c.d.fact 44 (f := .glo "tell_guess") rfl)
    have g_tell_jump := He.glo_ok X G (c.d.fact 22 (f := .glo "tell_jump") rfl)
    have g_tell_next := He.glo_ok X G (c.d.fact 13 (f := .glo "tell_next") rfl)
    have g_tell_one := He.glo_ok X G (c.d.fact 31 (f := .glo "tell_one") rfl)
    have g_tell_round := He.glo_ok X G (c.d.fact 26 (f := .glo "tell_round") rfl)
    have g_tell_rounds := He.glo_ok X G (c.d.fact 28 (f := .glo "tell_rounds") rfl)
    have g_tell_row := He.glo_ok X G (c.d.fact 15 (f := .glo "tell_row") rfl)
    have g_tell_rule := He.glo_ok X G (c.d.fact 11 (f := .glo "tell_rule") rfl)
    have g_tell_settled := He.glo_ok X G (c.d.fact 45 (f := .glo "tell_settled") rfl)
    have eL_seen := ent_of e3 (q := ("seen", .adr fun K => tvA K (He.ga K "LINES") "seen")) (by simp)
    have eA_seen := ent_of e16 (q := ("seen", .glo "do_seen")) (by simp)
    have eT_seen := tupSB_ok e4
    rw [show Str.ofString "seen" = SX.S seenW by decide] at eL_seen eA_seen
    have eL_back := ent_of e3 (q := ("back", .adr fun K => tvA K (He.ga K "LINES") "back")) (by simp)
    have eA_back := ent_of e16 (q := ("back", .glo "do_back")) (by simp)
    have eT_back := tupSB_ok e5
    rw [show Str.ofString "back" = SX.S backW by decide] at eL_back eA_back
    have eL_show := ent_of e3 (q := ("show", .adr fun K => tvA K (He.ga K "LINES") "show")) (by simp)
    have eA_show := ent_of e16 (q := ("show", .glo "tell_rule")) (by simp)
    have eT_show := tupSB_ok e6
    rw [show Str.ofString "show" = SX.S showW by decide] at eL_show eA_show
    have eL_next := ent_of e3 (q := ("next", .adr fun K => tvA K (He.ga K "LINES") "next")) (by simp)
    have eA_next := ent_of e16 (q := ("next", .glo "tell_next")) (by simp)
    have eT_next := tupSB_ok e7
    rw [show Str.ofString "next" = SX.S nextW by decide] at eL_next eA_next
    have eL_row := ent_of e3 (q := ("row", .adr fun K => tvA K (He.ga K "LINES") "row")) (by simp)
    have eA_row := ent_of e16 (q := ("row", .glo "tell_row")) (by simp)
    have eT_row := tupSB_ok e8
    rw [show Str.ofString "row" = SX.S rowW by decide] at eL_row eA_row
    have eL_jump := ent_of e3 (q := ("jump", .adr fun K => tvA K (He.ga K "LINES") "jump")) (by simp)
    have eA_jump := ent_of e16 (q := ("jump", .glo "tell_jump")) (by simp)
    have eT_jump := tupSB_ok e9
    rw [show Str.ofString "jump" = SX.S jumpW by decide] at eL_jump eA_jump
    have eL_round := ent_of e3 (q := ("round", .adr fun K => tvA K (He.ga K "LINES") "round")) (by simp)
    have eA_round := ent_of e16 (q := ("round", .glo "tell_round")) (by simp)
    have eT_round := tupSB_ok e10
    rw [show Str.ofString "round" = SX.S roundW by decide] at eL_round eA_round
    have eL_rounds := ent_of e3 (q := ("rounds", .adr fun K => tvA K (He.ga K "LINES") "rounds")) (by simp)
    have eA_rounds := ent_of e16 (q := ("rounds", .glo "tell_rounds")) (by simp)
    have eT_rounds := tupSB_ok e11
    rw [show Str.ofString "rounds" = SX.S roundsW by decide] at eL_rounds eA_rounds
    have eL_one := ent_of e3 (q := ("one", .adr fun K => tvA K (He.ga K "LINES") "one")) (by simp)
    have eA_one := ent_of e16 (q := ("one", .glo "tell_one")) (by simp)
    have eT_one := tupSB_ok e12
    rw [show Str.ofString "one" = SX.S oneW by decide] at eL_one eA_one
    have eL_fits := ent_of e3 (q := ("fits", .adr fun K => tvA K (He.ga K "LINES") "fits")) (by simp)
    have eA_fits := ent_of e16 (q := ("fits", .glo "tell_fits")) (by simp)
    have eT_fits := tupSB_ok e13
    rw [show Str.ofString "fits" = SX.S fitsW by decide] at eL_fits eA_fits
    have eL_guess := ent_of e3 (q := ("guess", .adr fun K => tvA K (He.ga K "LINES") "guess")) (by simp)
    have eA_guess := ent_of e16 (q := ("guess", .glo "tell_guess")) (by simp)
    have eT_guess := tupSB_ok e14
    rw [show Str.ofString "guess" = SX.S guessW by decide] at eL_guess eA_guess
    have eL_settled := ent_of e3 (q := ("settled", .adr fun K => tvA K (He.ga K "LINES") "settled")) (by simp)
    have eA_settled := ent_of e16 (q := ("settled", .glo "tell_settled")) (by simp)
    have eT_settled := tupSB_ok e15
    rw [show Str.ofString "settled" = SX.S settledW by decide] at eL_settled eA_settled
    have h_do_seen := o_dseen.held g_do_seen
    have h_do_back := o_dback.held g_do_back
    have h_tell_rule := o_tr.held g_tell_rule
    have h_tell_next := o_tn.held g_tell_next
    have h_tell_row := o_tw.held g_tell_row
    have h_tell_jump := o_tj.held g_tell_jump
    have h_tell_round := o_tro.held g_tell_round
    have h_tell_rounds := o_trs.held g_tell_rounds
    have h_tell_one := o_to.held g_tell_one
    have h_tell_fits := o_tf.held g_tell_fits
    have h_tell_guess := o_tg.held g_tell_guess
    have h_tell_settled := o_ts.held g_tell_settled
    have o_seed := ok_seed (P := (PySem.Challenge.rw_timesrow_k39_whole_two_desks).prog) (w := w) (base := base) T_seed z_max z_int
    have o_draw := ok_draw (P := (PySem.Challenge.rw_timesrow_k39_whole_two_desks).prog) (w := w) (base := base) T_draw
    have o_cells := ok_cells (P := (PySem.Challenge.rw_timesrow_k39_whole_two_desks).prog) (w := w) (base := base) T_cells z_len
    have o_far := ok_far T_far o_draw
    have o_rule := ok_rule T_rule o_draw o_far z_min
    have o_next := ok_next (P := (PySem.Challenge.rw_timesrow_k39_whole_two_desks).prog) (w := w) (base := base) T_next
    have o_line := ok_line (P := (PySem.Challenge.rw_timesrow_k39_whole_two_desks).prog) (w := w) (base := base) T_line
    have o_joined := ok_joined (P := (PySem.Challenge.rw_timesrow_k39_whole_two_desks).prog) (w := w) (base := base) T_joined
    have o_text := ok_text (P := (PySem.Challenge.rw_timesrow_k39_whole_two_desks).prog) (w := w) (base := base) T_text
    have o_of_row := ok_of_row T_of_row o_text o_joined o_times o_beh o_sett
    have o_quest := ok_question T_question o_draw o_far o_text o_joined o_of_row o_nextof o_rf o_jump o_rnd o_all o_one o_shown z_len z_tuple z_int
    have o_deed := ok_deed T_deed o_draw o_far o_rule o_line o_next
    have rN := o_rn.mono (show 3 ≤ 4 by decide)
    have aQ : ∀ (t pl m : Int) (xs : List Int) (line : List Nat) (zs : List Str), Rule t pl m → xs.length ≤ 60 → Rng m xs → Fits m xs → QuesK t pl m xs line zs → AskT (PySem.Challenge.rw_timesrow_k39_whole_two_desks).prog w K mg base (He.ga K "Desk") (He.ga K "KeptRow") (He.cT K ("read_rule", none)).2 (He.cT K ("is_figures", none)).2 (He.ga K "LINES") (He.ga K "READERS") (He.ga K "ACTIONS") t pl m xs line zs := fun t pl m xs line zs R xl rg ft h => by
      have m0 : 0 < m := by have := R.b1; omega
      rcases h with ⟨due, h, rfl⟩ | ⟨n, n0, n1, rfl, rfl⟩ | ⟨s, n, s0, s1, n0, n1, rfl, rfl⟩ | ⟨s, n, s0, s1, n0, n1, rfl, rfl⟩ | ⟨n, n0, n1, mM, rfl, rfl⟩ | ⟨ps, mM, rd, rfl, rfl⟩ | ⟨b, hb, rfl, rfl⟩ | ⟨rfl, rfl⟩
      · rcases h with ⟨rfl, h⟩ | ⟨rfl, v, g, nv, rfl⟩ | ⟨rfl, v, g, nv, rfl⟩
        · exact (ask_fits R xl rg ft h.one h.two eL_fits eT_fits eA_fits h_tell_fits h.lt).t
        · exact (ask_guess R xl rg ft (fun u hu => by rw [gssN_uniq g hu]) eL_guess eT_guess eA_guess h_tell_guess (vL_lt v)).t
        · exact (ask_settled R xl rg g.one g.two eL_settled eT_settled eA_settled h_tell_settled (vL_lt v)).t
      · exact (ask_next R n0 n1 eL_next eT_next eR_NUMBER (rN.held g_read_number) eA_next h_tell_next).t
      · exact (ask_row R s0 s1 n0 n1 eL_row eT_row eR_START (rN.held g_read_number) eR_MANY (o_rm.held g_read_many) eA_row h_tell_row).t
      · have ja := ahd_rng (t := t) (p := pl) m0 n.toNat s
        have ln : (TL.numL n.natAbs).length ≤ 19 := by
          rw [show n.natAbs = n.toNat by omega]
          exact TL.numL_len (by decide) (by
            have : (10 : Nat) ^ 19 = 10000000000000000000 := by decide
            omega)
        have a := (ask_jump (y := ahd t pl m n.toNat s) (xs := xs) R s0 s1 ln ja.1 ja.2 (.inl ⟨n0, rfl⟩) eL_jump eT_jump eR_START (rN.held g_read_number) eR_STEPS (o_rs.held g_read_steps) eA_jump h_tell_jump).t
        have sps : stL n = TL.numL n.toNat := by
          unfold stL
          rw [if_neg (by omega)]
        rw [sps] at a
        exact a
      · exact (ask_round R mM n0 n1 eL_round eT_round eR_START (rN.held g_read_number) eA_round h_tell_round).t
      · exact (ask_rounds R mM eL_rounds eT_rounds eA_rounds h_tell_rounds).t m0 rd
      · exact (ask_one R b hb eL_one eT_one eA_one h_tell_one).t
      · exact (ask_show R eL_show eT_show eA_show h_tell_rule).t
    have aSeen := fun (t pl m n : Int) (xs : List Int) (R : Rule t pl m) (n0 : 0 ≤ n) (n1 : n < m) (xl : xs.length < 60) (rg : Rng m xs) (ft : Fits m (xs ++ [n])) => ask_seen (dR := He.ga K "READERS") R n0 n1 xl rg ft eL_seen eT_seen eR_NUMBER (rN.held g_read_number) eA_seen h_do_seen
    have aBack := fun (t pl m : Int) (xs : List Int) (xl : xs.length ≤ 60) (ne : xs ≠ []) => ask_back (t := t) (pl := pl) (m := m) (dR := He.ga K "READERS") (P1 := (He.cT K ("read_rule", none)).2) (P2 := (He.cT K ("is_figures", none)).2) xl ne eL_back eT_back eA_back h_do_back
    exact ok_law FL TD o_dinit o_ask o_cells o_seed o_rule o_line o_deed o_quest aSeen aBack aQ z_range z_len z_enumerate
  · intro H a ns hl _ hT hS
    exact ⟨_, rfl, a, ns, rfl, hS, hl, tabG_nil (hT _ (List.mem_map.mpr ⟨("read_rule", none), by unfold tfK; simp, rfl⟩)), tabG_nil (hT _ (List.mem_map.mpr ⟨("is_figures", none), by unfold tfK; simp, rfl⟩)), fun _ => rfl⟩
end Tw
open PySem PySem.W PySem.Calls PyProof.Rows
set_option maxHeartbeats 0 in
theorem PySem.Challenge.cw_timesrow_k39_whole_two_desks_holds : PySem.Challenge.rw_timesrow_k39_whole_two_desks.Holds := by
  w_on; o_law
  refine HandSHeadRun.head_any (r := OpenLaw.row PySem.Challenge.rw_timesrow_k39_whole_two_desks) (q := view (OpenLaw.row PySem.Challenge.rw_timesrow_k39_whole_two_desks).prog [86]) (H := Tw.hk) (ob := Tw.ob) (M := 20000) (loose := Tw.namesK) (d := HandSHeadRun.topDef (OpenLaw.row PySem.Challenge.rw_timesrow_k39_whole_two_desks).prog 86) (kwd := []) Tw.ob_eq
    (by kernel_rfl) (fun s => by kernel_rfl) Tw.run (by kernel_rfl) (by kernel_rfl) (by kernel_rfl) (by rfl) (by first | assumption | decide +kernel) (by decide +kernel) ⟨rfl, rfl, rfl, rfl, rfl, by decide +kernel⟩ ?hw ?hc
  case hw => w_witness2
  case hc =>
    refine LamX.walk_ofTsE (l := PySem.Challenge.rw_timesrow_k39_whole_two_desks) (n := 63) (k := 14) (x := "script") (CX := fun _ => L2.CX0) rfl (by decide) (by kernel_rfl) ⟨rfl, by decide, by decide⟩ ?F (fun _ _ _ _ _ z => z)
    intro w mg fa h Y G hmg0
    obtain ⟨K, KX, c⟩ := Y
    have hmg : mg ("law" : PySem.Str) = some (.ref fa) := by
      have e : (HandSHeadRun.topDef (OpenLaw.row PySem.Challenge.rw_timesrow_k39_whole_two_desks).prog 86).name = ("law" : PySem.Str) := by kernel_rfl
      rw [← e]
      exact hmg0
    exact ⟨K, KX, Tw.factsK KX G hmg c⟩

