import PyProof.Rows.All
import Wide.All
import OpenK.AllK
import Wide.FinOn
import PyProof.EqAt
import PyProof.EqKinds
import PyProof.TupleCall
import KE.KExcIs
import HandS.ForMost
import HandS.ForExc
import HandS.ExcInit
import HandS.ExcField
import HandS.IsInst
import HandS.ClsMeth
import HandS.Wide
import HandS.SetFor
import HandS.Codes
import KE.GoesMore
import HandS.Walk
import HandS.Style
import HandS.Set
import HandS.Strs
import HandS.SortInts
import HandS.DictTup
import HandS.ListItems
import HandS.Conv
import HandS.NoneIn
import PySem.Challenge.RW_timesrow_k10_whole_rounds
set_option Elab.async false
set_option linter.all false
set_option maxRecDepth 100000
set_option maxHeartbeats 4000000
/-! Own rules over the hand layer: a caught exception kept as a value, its class asked, its field read; the base's own initialiser reached through an own class; products and quotients by plain bounds. -/
namespace Tw
open PySem PySem.Spec PyProof.Rows L2

/-! ### an exception held as a value -/
def exv (a : Addr) (cls : Value) (d : Option Addr) : HO := .ext fun h => ∃ (oe : Obj) (vs : Array Value), h.get? a = some oe ∧ Zc cls d oe ∧ oe.data = .fields vs
theorem exv_ok {P : Program} {w : World} {H : Hp} {h : Heap} {a : Addr} {cls : Value} {d : Option Addr} {oe : Obj} {vs : Array Value} (he : h.get? a = some oe) (hz : Zc cls d oe) (hd : oe.data = .fields vs) : ObjOk P w H h a (exv a cls d) :=
  ⟨⟨oe, vs, he, hz, hd⟩, ⟨oe, he⟩, fun _ _ z k => by
    obtain ⟨o, v, e, q⟩ := z
    exact ⟨o, v, k _ e, q⟩⟩
theorem exv_at {P : Program} {w : World} {H : Hp} {h : Heap} {a : Addr} {cls : Value} {d : Option Addr} (hok : HOk P w H h) (he : H a = some (exv a cls d)) : ∃ (oe : Obj) (vs : Array Value), h.get? a = some oe ∧ Zc cls d oe ∧ oe.data = .fields vs := by
  have x : ObjOk P w H h a (.ext fun h => ∃ (oe : Obj) (vs : Array Value), h.get? a = some oe ∧ Zc cls d oe ∧ oe.data = .fields vs) := hok a _ he
  exact x.1
section
variable {X : Cx} {pins : List (Addr × Obj)} {σ : L2.St} {H : Hp} {s : Shared}
/-- an object of ours that was not tracked is tracked from here on -/
theorem track {a : Addr} {o : HO} (I : Inv X pins σ H s) (na : H a = none) (h0 : ∀ ob, X.s_0.heap.get? a = some ob → X.H_0 a = none → a ∉ X.ex → False) (hL : a ≠ X.env.locals)
    (hc : ∀ x c, X.env.cells.lookup x = some c → c ≠ a) (hp : ∀ p ∈ X.pn ++ pins, p.1 ≠ a) (new : ObjOk X.prog X.w (upd H a o) s.heap a o) : Inv X pins σ (upd H a o) s := by
  have ne : ∀ {b : Addr} {u : HO}, H b = some u → b ≠ a := fun {b u} e => ne_of_none e na
  refine ⟨I.ok, I.os, I.bare, ⟨I.base.keep, I.base.slot, fun b ob e n hx => ?_, I.base.there, fun b xs e => ?_, fun b ob u e => ?_, fun b ps e => ?_⟩, I.loc, I.cell, ?_, fun x c e => ?_, fun p q => ?_, fun b u e => ?_, I.len⟩
  · have nb : b ≠ a := fun z => h0 ob (z ▸ e) (z ▸ n) (z ▸ hx)
    rw [upd_ne nb]
    exact I.base.free b ob e n hx
  · have q := I.base.tups b xs e
    rw [upd_ne (ne q)]
    exact q
  · have q := I.base.frzs b ob u e
    rw [upd_ne (ne q)]
    exact q
  · obtain ⟨more, q⟩ := I.base.tbls b ps e
    exact ⟨more, by rw [upd_ne (ne q)]; exact q⟩
  · rw [upd_ne (Ne.symm hL)]
    exact I.free
  · rw [upd_ne (hc x c e)]
    exact I.freeC x c e
  · obtain ⟨e, n, l, f, d⟩ := I.pin p q
    exact ⟨e, by rw [upd_ne (hp p q)]; exact n, l, f, d⟩
  · by_cases hb : b = a
    · subst hb
      rw [upd_same] at e
      cases e
      exact new
    · rw [upd_ne hb] at e
      exact (I.hok b u e).stay (fun _ _ _ q => q) (fun c q => by rw [upd_ne (ne q)]; exact q) (fun c xs q => by rw [upd_ne (ne q)]; exact q)
/-- into an except suite and out of it: nothing more is pinned there than was before -/
theorem toSuite (I : Inv X pins σ H s) (a : Addr) : Inv (X.suite a (X.pn ++ pins)) [] σ H s :=
  { ok := I.ok.suite _ _, os := I.os, bare := I.bare, base := I.base, loc := I.loc, cell := I.cell, free := I.free, freeC := I.freeC, hok := I.hok, len := I.len
    pin := fun p hp => I.pin p ((List.append_nil (X.pn ++ pins)) ▸ hp) }
theorem ofSuite {a : Addr} {more : List (Addr × Obj)} (I : Inv (X.suite a (X.pn ++ pins)) more σ H s) (ok : X.Ok) : Inv X pins σ H s :=
  { ok := ok, os := I.os, bare := I.bare, base := I.base, loc := I.loc, cell := I.cell, free := I.free, freeC := I.freeC, hok := I.hok, len := I.len
    pin := fun p hp => I.pin p (List.mem_append_left more hp) }
/-- no frame is a record -/
theorem rec_noframe {h B : Heap} {l : List Env} {a : Addr} {o : Obj} {vs : Array Value} (ff : h.FunFrames B l) (e : h.get? a = some o) (dd : o.data = .fields vs) : a ∉ frs l := fun hm => by
  obtain ⟨_, o2, e2, nf⟩ := ff.mem hm
  have z := Option.some.inj (e.symm.trans e2)
  subst z
  exact nf vs dd
/-- an address that the ground does not know is younger than the def's entry, and is not pinned -/
theorem young {B : Heap} {a : Addr} (J : Inv X pins σ H s) (gr : ∀ b o, s.heap.get? b = some o → b ∉ frs X.stack → B.get? b = some o) (hB : B.get? a = none) (nS : a ∉ frs X.stack) (nF : a ∉ X.fs) :
    (∀ ob, X.s_0.heap.get? a = some ob → X.H_0 a = none → a ∉ X.ex → False) ∧ ∀ p ∈ X.pn ++ pins, p.1 ≠ a := by
  constructor
  · intro ob e n hx
    have z := gr a ob (J.base.keep a ob e n nF hx) nS
    rw [hB] at z
    cases z
  · intro p hp z
    obtain ⟨e, _, l, f, _⟩ := J.pin p hp
    have y := gr p.1 p.2 e (fun hm => (List.mem_cons.mp (J.stkSub p.1 hm)).elim l f)
    rw [z, hB] at y
    cases y
end
/-- what the clause wishes of an exception of the body: the clause takes it; it is held, and stays held behind the suite -/
def wKeep (K : PySem.W.Frag) (c : Value) (i : Nat) (ts : TS) (D : Ends) : WX := fun cls d σ H =>
  PySem.W.exmOne K cls c = some true ∧ ∀ a, H a = none → ts { nx := fun σ1 H1 => D.nx (σ1.set i none) H1, rt := D.rt, bk := fun σ1 H1 => D.bk (σ1.set i none) H1, ct := fun σ1 H1 => D.ct (σ1.set i none) H1 } (σ.set i (some (.ref a))) (upd H a (exv a cls d))
section
variable {X : Cx} {x n : Str} {c : Value} {i : Nat} {body suite : List Stmt} {b0 : Stmt} {np pos pos' : Pos} {tb : WX → TS} {ts : TS}
/-- the clause's name is looked up while the exception is handled -/
theorem clause_name {pins : List (Addr × Obj)} {σ : L2.St} {H : Hp} {s : Shared} {a : Addr} {Q : Value → Shared → Prop} {E : Value → Shared → Prop} (hc : Names X x c) (I : Inv X pins σ H s) (q : Q c s) :
    wpAny (model X.prog X.w) (X.A.mark (some (.ref a))) (eval (.Name x np) X.env) Q E s := by
  have J := toSuite I a
  obtain ⟨g, nd, m | ⟨m, v, nn⟩⟩ := hc
  · exact ld_glob (X := X.suite a (X.pn ++ pins)) J g m q nd
  · exact ld_blt (X := X.suite a (X.pn ++ pins)) J g m v q nn nd
/-- behind the suite: the name goes, and the way goes on as it would -/
theorem suite_done {pins : List (Addr × Obj)} {a : Addr} {D : Ends} {fl : Flow} {s : Shared} (ok : X.Ok) (hN : X.N.Nodup) (hi : X.N[i]? = some n) (hln : X.env.kindOf n = some .local)
    (h : SP (X.suite a (X.pn ++ pins)) [] { nx := fun σ1 H1 => D.nx (σ1.set i none) H1, rt := D.rt, bk := fun σ1 H1 => D.bk (σ1.set i none) H1, ct := fun σ1 H1 => D.ct (σ1.set i none) H1 } fl s) :
    wpAny (model X.prog X.w) X.A (do bindName X.env n .none; unbindBehindTheSuite X.env n pos') (fun _ s7 => SP X pins D fl s7) X.xe s := by
  cases fl with
  | next => obtain ⟨_, _, S, q⟩ := h; exact gone_ok (ofSuite S ok) hN hi hln fun _ J => ⟨_, _, J, q⟩
  | brk => obtain ⟨_, _, S, q⟩ := h; exact gone_ok (ofSuite S ok) hN hi hln fun _ J => ⟨_, _, J, q⟩
  | cont => obtain ⟨_, _, S, q⟩ := h; exact gone_ok (ofSuite S ok) hN hi hln fun _ J => ⟨_, _, J, q⟩
  | ret u => obtain ⟨_, _, _, S, r, q⟩ := h; exact gone_ok (ofSuite S ok) hN hi hln fun _ J => ⟨_, _, _, J, r, q⟩
/-- an exception in the air of the try's body, met by the clause -/
theorem met {pins : List (Addr × Obj)} {xe : Value → Shared → Prop} {D : Ends} {u : Value} {s1 : Shared} (ok : X.Ok) (hs : X.stack = X.env :: X.outer) (hf : X.env.frame = some X.env.locals) (hN : X.N.Nodup) (hi : X.N[i]? = some n) (hln : X.env.kindOf n = some .local) (hc : Names X x c)
    (hsu : ∀ (a : Addr) (pn : List (Addr × Obj)), PSs (X.suite a pn) (b0 :: suite) ts) (air : XE (X.tr (X.pn ++ pins) xe) (wKeep X.K c i ts D) u s1) :
    wpAny (model X.prog X.w) X.A (noteFrame u X.env) (fun _ s2 => wpAny (model X.prog X.w) X.A (setFlight u none) (fun _ s3 =>
      wpAny (model X.prog X.w) X.A (handleBy u X.env [.ExceptHandler (some (.Name x np)) (some n) (b0 :: suite) pos']) (SP X pins D) X.xe s3) X.xe s2) X.xe s1 := by
  obtain ⟨a, B, sI, _, σ1, H1, cls, d, rfl, J0, gr, up, sky, na, os, ag, xm, yes⟩ := air
  have J : Inv X pins σ1 H1 sI := J0.ofTry ok
  have top : X.A.frames = some (X.env :: X.outer) := ok.frames.trans (congrArg some hs)
  have sky1 : Sky B (X.env :: X.outer) a (Zc cls d) X.env.locals s1.heap := hs ▸ sky
  refine Sky.land Zc.steady top hf sky1 fun h3 fly3 up3 => ?_
  have J3 : Inv X pins σ1 H1 { s1 with heap := h3 } := J.landed gr fly3.1 (up.trans up3) os ag
  obtain ⟨oe3, vs3, at3, z3, d3⟩ := fly3.there
  have nfr : a ∉ frs (X.env :: X.outer) := rec_noframe fly3.2.2.1 at3 d3
  have nS : a ∉ frs X.stack := hs ▸ nfr
  have nL : a ≠ X.env.locals := fun z => nfr (List.mem_filterMap.mpr ⟨X.env, List.mem_cons_self, by rw [hf, z]⟩)
  have nF : a ∉ X.fs := fun hm => let ⟨e, he, q⟩ := List.mem_filterMap.mp hm; nfr (List.mem_filterMap.mpr ⟨e, List.mem_cons_of_mem _ he, q⟩)
  have TY : PySem.W.Looks (model X.prog X.w) h3 (typeOf (.ref a)) cls := fun _ _ _ _ k q => wpAny_typeOf_ref (k _ _ at3) (z3.1.symm ▸ q)
  refine wpAny_handleBy_cons (codeAny_handlers_test (clause_name hc J3 ((PySem.W.exm_one (M := model X.prog X.w) J3.kIn TY xm).here ?_))) (fun q => by cases q)
  refine codeAny_handlers_suite_as (HandSPX.lands_againZ fly3 fun h4 fly4 up4 => ?_)
  have J4 : Inv X pins σ1 H1 { s1 with heap := h4 } := J.landed gr fly4.1 ((up.trans up3).trans up4) os ag
  obtain ⟨oe, vs, at4, z4, d4⟩ := fly4.there
  obtain ⟨y1, y2⟩ := young J gr fly4.2.1 nS nF
  have ncell : ∀ y cc, X.env.cells.lookup y = some cc → cc ≠ a := fun y cc e z => by
    obtain ⟨_, oc, hoc, hdc⟩ := J4.cell y cc e
    subst z
    have w1 : oe = oc := Option.some.inj (at4.symm.trans hoc)
    rw [← w1, d4] at hdc
    cases hdc
  have J5 := toSuite (track (o := exv a cls d) J4 na y1 nL ncell y2 (exv_ok at4 z4 d4)) a
  refine store_ok (X := X.suite a (X.pn ++ pins)) (v := .ref a) J5 hN hi (.inl hln) rfl (fun s5 S5 => ?_) (.inr hln)
  exact wpAny_mono ((hsu a (X.pn ++ pins)).run [] s5 _ _ _ S5 (yes a na)) (fun fl s6 h6 => suite_done ok hN hi hln h6) (fun _ _ z => z.elim)
theorem ps_try_keep (hs : X.stack = X.env :: X.outer) (hf : X.env.frame = some X.env.locals) (hN : X.N.Nodup) (hi : X.N[i]? = some n) (hln : X.env.kindOf n = some .local) (hc : Names X x c)
    (hb : ∀ (W : WX) (pn : List (Addr × Obj)) (xe : Value → Shared → Prop), Takes (X.tr pn xe) W → PassesOwn (model X.prog X.w) X.A X.env xe → PSs (X.tr pn xe) body (tb W))
    (hsu : ∀ (a : Addr) (pn : List (Addr × Obj)), PSs (X.suite a pn) (b0 :: suite) ts) :
    PS X (.Try body [.ExceptHandler (some (.Name x np)) (some n) (b0 :: suite) pos'] [] [] pos) (fun D σ H => tb (wKeep X.K c i ts D) D σ H) := by
  refine ⟨fun pins s σ H D I h => wpAny_Try_except ?_⟩
  have ok := I.ok
  refine wpAny_mono ((hb _ (X.pn ++ pins) _ (fun u s1 air => met ok hs hf hN hi hln hc hsu air) PassesOwn.looking).run [] s σ H D (I.toTry _) h) (fun fl s1 r => ?_) (fun _ _ q => q)
  cases fl with
  | next => obtain ⟨_, _, J, q⟩ := r; exact wpAny_execs_nil ⟨_, _, J.ofTry ok, q⟩
  | brk => obtain ⟨_, _, J, q⟩ := r; exact ⟨_, _, J.ofTry ok, q⟩
  | cont => obtain ⟨_, _, J, q⟩ := r; exact ⟨_, _, J.ofTry ok, q⟩
  | ret u => obtain ⟨_, _, _, J, v, q⟩ := r; exact ⟨_, _, _, J.ofTry ok, v, q⟩
end

/-! ### isinstance of a held exception -/
/-- what is asked of an own exception class -/
structure XcC (K : PySem.W.Frag) (D : Addr) : Prop where
  hc : PySem.W.isClsIn K D = true
  hg : PySem.W.findIn K (.ref D) "__getattribute__" = some (some (.builtin "BaseException.__getattribute__"))
  hk : PySem.W.findIn K (.ref D) "__getattr__" = some none
  hs : PySem.W.subIn K (.ref D) (.type "BaseException") = some true
  hd : PySem.W.hasDictIn K D = true
  ha : PySem.W.findIn K (.ref D) "__class__" = some (some (.builtin "object.__class__"))
  hn : PySem.W.specialIn K (.builtin "object.__class__") "__get__" = some (some (.builtin "getset_descriptor.__get__"))
  ht : PySem.W.takesIn K (.builtin "object.__class__") = some true
  hm : PySem.W.mroIn K D (.type "object") = some true
section
variable {X : Cx} {pins : List (Addr × Obj)} {σ : L2.St} {H : Hp} {s : Shared}
/-- a held exception, its dict as the heap tells it -/
def HasD (H : Hp) (d : Option Addr) : Prop := ∀ dx, d = some dx → ∃ fs, H dx = some (.xd fs)
theorem inst_of {a D : Addr} {d : Option Addr} (I : Inv X pins σ H s) (e : H a = some (exv a (.ref D) d)) (hd : HasD H d) : ∃ oe od, PySem.W.InstAt s.heap a oe D od := by
  obtain ⟨oe, vs, he, hz, hv⟩ := exv_at I.hok e
  have nc : PySem.W.notCls oe = true := by unfold PySem.W.notCls; rw [hv] <;> rfl
  cases d with
  | none => exact ⟨oe, none, he, hz.1, nc, by rw [hz.2]; trivial⟩
  | some dx =>
    obtain ⟨fs, ed⟩ := hd dx rfl
    have hx : ObjOk X.prog X.w H s.heap dx (.xd fs) := I.hok dx _ ed
    obtain ⟨mA, hns, hr⟩ := hx
    obtain ⟨od, ho, hl⟩ := lookIn_ns hns
    exact ⟨oe, some od, he, hz.1, nc, by rw [hz.2]; exact ho⟩
end
/-- isinstance(e, c), e a held exception of the class at D -/
def rIsX (K : PySem.W.Frag) : List V → Hp → VK → Prop := fun xs H Q => ∃ (a D : Addr) (d : Option Addr) (c : V) (u : Value) (b : Bool), xs = [.ref a, c] ∧ ClsV c u ∧ H a = some (exv a (.ref D) d) ∧ HasD H d ∧ XcC K D ∧ PySem.W.kitOne K (.ref D) u = some b ∧ Q (.bl b) H
theorem call_isX {X : Cx} : CallR X (.builtin "isinstance") (rIsX X.K) := by
  intro pins s σ H xs us Q I r h
  obtain ⟨a, D, d, c, u, b, rfl, k, ea, hd, T, e, q⟩ := h
  obtain ⟨u1, u2, rfl, r1, r2⟩ := vals2 r
  cases (show u1 = Value.ref a from r1)
  have e2 := k.eq r2
  subst e2
  obtain ⟨oe, od, J⟩ := inst_of I ea hd
  exact PySem.W.kia_one (PySem.W.kitx_exc T.hc T.hg T.hk T.hs T.ha T.hn T.ht T.hm) I.kIn J e (fun z => nomatch z) fun tk => ⟨.bl b, H, I.tok tk, rfl, q⟩
/-- both: a held exception, or anything that the layer knows -/
def rIsA (K : PySem.W.Frag) : List V → Hp → VK → Prop := fun xs H Q => rIsX K xs H Q ∨ rIsi K xs H Q
theorem call_isA {X : Cx} : CallR X (.builtin "isinstance") (rIsA X.K) := by
  intro pins s σ H xs us Q I r h
  rcases h with h | h
  · exact call_isX pins s σ H xs us Q I r h
  · exact call_isi pins s σ H xs us Q I r h

/-! ### a field of a held exception -/
def tXv (K : PySem.W.Frag) (f : Str) (te : TE) : TE := fun σ H Q => te σ H fun x H1 => ∃ (a C dd : Addr) (fs : List (Str × V)) (v : V), x = .ref a ∧ H1 a = some (exv a (.ref C) (some dd)) ∧ XcC K C ∧ PySem.W.findIn K (.ref C) f = some none ∧ H1 dd = some (.xd fs) ∧ fs.lookup f = some v ∧ Q v H1
theorem pe_xv {X : Cx} {e : Expr} {te : TE} {pos : Pos} {n : Str} (he : PE X e te) (hb : attributeBase e n X.env (eval e X.env) = eval e X.env := by rfl) : PE X (.Attribute e n pos) (tXv X.K n te) := by
  refine ⟨fun pins s σ H Q I h => ?_⟩
  refine attr_of hb (thn (he.run pins s σ H _ I h) fun u s1 hh => ?_)
  obtain ⟨x, H1, I1, rx, a, C, dd, fs, v, ex, ea, T, hno, ed, l, q⟩ := hh
  subst ex
  obtain rfl : u = Value.ref a := rx
  obtain ⟨oe, vs, ha, hz, hd⟩ := exv_at I1.hok ea
  have hx : ObjOk X.prog X.w H1 s1.heap dd (.xd fs) := I1.hok dd _ ed
  obtain ⟨mA, hns, hr⟩ := hx
  obtain ⟨od, ho, hl⟩ := lookIn_ns hns
  obtain ⟨u, hu, ru⟩ := RelO.some_of (v := v) (o := mA n) (by rw [← l]; exact hr n)
  have J : PySem.W.InstAt s1.heap a oe C (some od) := ⟨ha, hz.1, by unfold PySem.W.notCls; rw [hd] <;> rfl, by rw [hz.2]; exact ho⟩
  exact HandSPX.exc_get I1.kIn J T.hg T.hk T.hs (PySem.W.findObj_own T.hd hno rfl (by rw [hl, hu])) (handed_of ru) ⟨v, H1, I1.tok _, ru, q⟩

/-! ### B.__init__(self, ..), B an own class over ValueError -/
theorem pe_ownInit {X : Cx} {B : Addr} {mc : Value} {x : Str} {e : Expr} {es : List Expr} {ta : TA} {p1 p2 pos : Pos} {pl : Sem Bool} (hg : Gl X x) (hm : X.mg x = some (.ref B)) (r : ClX.CRead X.K B mc)
    (k : PySem.W.findCls X.K (.ref B) mc "__init__" = some (.val (.builtin "ValueError.__init__"))) (ha : PA X (e :: es) ta)
    (hc : eval (.Call (.Attribute (.Name x p1) "__init__" p2) (e :: es) [] pos) X.env = (do
      let ov ← eval (.Name x p1) X.env
      standAt p2.atName
      let (f, first) ← holding [ov] (getMethod ov "__init__" pl)
      callWith pos f first (backTo pos (starEach (e :: es) X.env)) (backToKw pos (keywordEach [] X.env))) := by rfl)
    (he : starEach (e :: es) X.env = (false, eval e X.env) :: starEach es X.env := by rfl) (hpl : (backTo pos (starEach es X.env)).any (·.1) = false := by rfl) (hdb : (x == ("__debug__" : Str)) = false := by decide) :
    PE X (.Call (.Attribute (.Name x p1) "__init__" p2) (e :: es) [] pos) (tVeI X.K ta) := by
  refine ⟨fun pins s σ H Q I h => ?_⟩
  refine PySem.W.methodCall_KW (ld_glob I hg hm ?_ hdb) hc
  refine PySem.W.method_cls I.kIn r.ga (PySem.W.cls_value I.kIn r.rd k rfl ?_)
  show wpAny _ _ (callWith pos (Value.builtin "ValueError.__init__") [] (backTo pos (starEach (e :: es) X.env)) []) _ _ _
  refine PyProof.Rows.callWith_method1 (thn (ha.run pos pins _ σ H _ (I.tok _) h) fun us s1 ⟨vs, H1, I1, r1, a, C, ws, ev, hl, T, ea, q⟩ => ?_) he hpl
  subst ev
  cases r1 with
  | @cons _ u0 _ ur ra rw' =>
    obtain rfl : u0 = Value.ref a := ra
    have hlen : ur.length ≤ sizeLine := by
      rw [← Paired.length rw', sizeLine_eq]
      omega
    exact oinit_ok T I1 ea hlen fun s' J => ⟨.non, H1, J, rfl, q⟩

/-! ### products and quotients by plain bounds -/
def Big (i : Int) : Prop := -1000000000000000000000000000000000000000000 < i ∧ i < 1000000000000000000000000000000000000000000
theorem Big.abs {i : Int} (h : Big i) : i.natAbs < 2 ^ 140 := by
  obtain ⟨a, b⟩ := h
  have : (2 : Nat) ^ 140 = 1393796574908163946345982392040522594123776 := by decide
  rw [this]
  omega
def CMulB (i j : Int) : Prop := Big i ∧ Big j
def CDivB (_ j : Int) : Prop := 0 < j ∧ j < 1000000000000000000000000000000000000000000
theorem op_mulB {X : Cx} : OpR X (binaryOp .Mult) (rI CMulB fun i j => .int (i * j)) := by
  intro pins s σ H x y u v Q I r1 r2 h
  obtain ⟨i, j, e1, e2, hc, q⟩ := h
  exact op_mulW pins s σ H x y u v Q I r1 r2 ⟨i, j, e1, e2, wide_mul hc.1.abs hc.2.abs (by decide) (by decide) (by decide), q⟩
theorem op_fdivB {X : Cx} : OpR X (binaryOp .FloorDiv) (rI CDivB fun i j => .int (i / j)) := by
  intro pins s σ H x y u v Q I r1 r2 h
  obtain ⟨i, j, e1, e2, hc, q⟩ := h
  have hb : Big j := ⟨by have := hc.1; omega, hc.2⟩
  exact op_fdivW pins s σ H x y u v Q I r1 r2 ⟨i, j, e1, e2, wide_div hc.1 hb.abs (by decide) (by decide), q⟩
end Tw

/-! Short words: a def of the top, its promise, its call; readings. -/
namespace Tw
open PySem PySem.Spec PyProof.Rows L2

/-- a def of the text as the top has left it -/
def Top (K : PySem.W.Frag) (mg : Str → Option Value) (x : Str) (st : Stmt) (ps : List Str) : Prop :=
  ∃ (f : Addr) (fd : FuncData), Fun K x x st f fd ∧ mg x = some (.ref f) ∧ Binds K fd ps []
/-- a def that keeps its promise, ready to be called -/
def Lk (K : PySem.W.Frag) (f : Addr) (fd : FuncData) : Prop := ∃ (oc : Value) (od : Option Addr) (osl : Array (Option Value)), K.lookup f = some ⟨oc, od, .func fd, osl⟩
theorem Lk.eq {K : PySem.W.Frag} {f : Addr} {fd fe : FuncData} (a : Lk K f fd) (b : Lk K f fe) : fd = fe := by
  obtain ⟨oc, od, osl, e⟩ := a
  obtain ⟨oc', od', osl', e'⟩ := b
  rw [e] at e'
  cases e'
  rfl
theorem lk_of {K : PySem.W.Frag} {x q : Str} {st : Stmt} {f : Addr} {fd : FuncData} (F : Fun K x q st f fd) : Lk K f fd := by
  obtain ⟨oc, od, kV, doc, pm, an, cdv, ct, osl, _, lk, _⟩ := F.ex
  exact ⟨oc, od, osl, lk⟩
def Has (P : Program) (w : World) (K : PySem.W.Frag) (mg : Str → Option Value) (base : Heap) (CX : CXT) (k : Nat) (x : Str) (ps : List Str) (sp : Sp) : Prop :=
  ∃ (f : Addr) (fd : FuncData), FnOk P w K mg base CX k f fd ps sp ∧ mg x = some (.ref f) ∧ PySem.W.keepIn K (.ref f) = true ∧ Binds K fd ps [] ∧ Lk K f fd
theorem Has.mono {P : Program} {w : World} {K : PySem.W.Frag} {mg : Str → Option Value} {base : Heap} {CX : CXT} {j k : Nat} {x : Str} {ps : List Str} {sp : Sp} (h : Has P w K mg base CX j x ps sp) (l : j ≤ k) : Has P w K mg base CX k x ps sp := by
  obtain ⟨f, fd, F, g, kp, b, lk⟩ := h
  exact ⟨f, fd, F.mono l, g, kp, b, lk⟩
/-! promises by the number of arguments -/
def sp1 (p : V → Hp → VK → XK → Prop) : Sp := fun vs H Q E => ∃ a, vs = [a] ∧ p a H Q E
def sp2 (p : V → V → Hp → VK → XK → Prop) : Sp := fun vs H Q E => ∃ a b, vs = [a, b] ∧ p a b H Q E
def sp3 (p : V → V → V → Hp → VK → XK → Prop) : Sp := fun vs H Q E => ∃ a b c, vs = [a, b, c] ∧ p a b c H Q E
def sp4 (p : V → V → V → V → Hp → VK → XK → Prop) : Sp := fun vs H Q E => ∃ a b c d, vs = [a, b, c, d] ∧ p a b c d H Q E
section
variable {P : Program} {w : World} {K : PySem.W.Frag} {mg : Str → Option Value} {base : Heap} {x : Str} {st : Stmt} {N : List Str} {k : Nat}
theorem Top.ok {ps : List Str} {sp : Sp} (D : Top K mg x st ps) (S : FnScope N ps (defScope st)) (len : ∀ vs H Q E, sp vs H Q E → vs.length = ps.length)
    (hbody : ∀ (f : Addr) (cdv : Value) (A : Around) (outer : List Env) (s : Shared) (H : Hp) (vs : List V) (Q : VK) (E : XK), Room k (A.deeper (envOfC x (defScope st) s.heap.objs.size f cdv)) → sp vs H Q E →
      ∃ t, PSs (cxOf CX0 P w K mg base N x (defScope st) f cdv A outer s H E).nox (defBody st) t ∧ t { nx := fun _ H' => Q .non H', rt := Q } (start N vs) H) : Has P w K mg base CX0 (k + 1) x ps sp := by
  obtain ⟨f, fd, F, g, b⟩ := D
  exact ⟨f, fd, F.ok S len (fun cdv A outer s H vs Q E hr h => hbody f cdv A outer s H vs Q E hr h), g, F.kp, b, lk_of F⟩
theorem Top.okX {ps : List Str} {sp : Sp} (D : Top K mg x st ps) (S : FnScope N ps (defScope st)) (len : ∀ vs H Q E, sp vs H Q E → vs.length = ps.length)
    (hbody : ∀ (f : Addr) (cdv : Value) (A : Around) (outer : List Env) (s : Shared) (H : Hp) (vs : List V) (Q : VK) (E : XK), Room k (A.deeper (envOfC x (defScope st) s.heap.objs.size f cdv)) → sp vs H Q E →
      ∃ t, PSs (cxOf (L2.CX P w) P w K mg base N x (defScope st) f cdv A outer s H E) (defBody st) t ∧ t { nx := fun _ H' => Q .non H', rt := Q } (start N vs) H) : Has P w K mg base (L2.CX P w) (k + 1) x ps sp := by
  obtain ⟨f, fd, F, g, b⟩ := D
  exact ⟨f, fd, F.okX S len (fun cdv A outer s H vs Q E hr h => hbody f cdv A outer s H vs Q E hr h), g, F.kp, b, lk_of F⟩
theorem Top.ok1 {a : Str} {p : V → Hp → VK → XK → Prop} (D : Top K mg x st [a]) (S : FnScope N [a] (defScope st))
    (hbody : ∀ (f : Addr) (cdv : Value) (A : Around) (outer : List Env) (s : Shared) (H : Hp) (v1 : V) (Q : VK) (E : XK), Room k (A.deeper (envOfC x (defScope st) s.heap.objs.size f cdv)) → p v1 H Q E →
      ∃ t, PSs (cxOf CX0 P w K mg base N x (defScope st) f cdv A outer s H E).nox (defBody st) t ∧ t { nx := fun _ H' => Q .non H', rt := Q } (start N [v1]) H) : Has P w K mg base CX0 (k + 1) x [a] (sp1 p) :=
  D.ok S (fun vs H Q E h => by obtain ⟨_, rfl, _⟩ := h; rfl) (fun f cdv A outer s H vs Q E hr h => by obtain ⟨v1, rfl, h⟩ := h; exact hbody f cdv A outer s H v1 Q E hr h)
theorem Top.ok2 {a b : Str} {p : V → V → Hp → VK → XK → Prop} (D : Top K mg x st [a, b]) (S : FnScope N [a, b] (defScope st))
    (hbody : ∀ (f : Addr) (cdv : Value) (A : Around) (outer : List Env) (s : Shared) (H : Hp) (v1 v2 : V) (Q : VK) (E : XK), Room k (A.deeper (envOfC x (defScope st) s.heap.objs.size f cdv)) → p v1 v2 H Q E →
      ∃ t, PSs (cxOf CX0 P w K mg base N x (defScope st) f cdv A outer s H E).nox (defBody st) t ∧ t { nx := fun _ H' => Q .non H', rt := Q } (start N [v1, v2]) H) : Has P w K mg base CX0 (k + 1) x [a, b] (sp2 p) :=
  D.ok S (fun vs H Q E h => by obtain ⟨_, _, rfl, _⟩ := h; rfl) (fun f cdv A outer s H vs Q E hr h => by obtain ⟨v1, v2, rfl, h⟩ := h; exact hbody f cdv A outer s H v1 v2 Q E hr h)
theorem Top.ok3 {a b c : Str} {p : V → V → V → Hp → VK → XK → Prop} (D : Top K mg x st [a, b, c]) (S : FnScope N [a, b, c] (defScope st))
    (hbody : ∀ (f : Addr) (cdv : Value) (A : Around) (outer : List Env) (s : Shared) (H : Hp) (v1 v2 v3 : V) (Q : VK) (E : XK), Room k (A.deeper (envOfC x (defScope st) s.heap.objs.size f cdv)) → p v1 v2 v3 H Q E →
      ∃ t, PSs (cxOf CX0 P w K mg base N x (defScope st) f cdv A outer s H E).nox (defBody st) t ∧ t { nx := fun _ H' => Q .non H', rt := Q } (start N [v1, v2, v3]) H) : Has P w K mg base CX0 (k + 1) x [a, b, c] (sp3 p) :=
  D.ok S (fun vs H Q E h => by obtain ⟨_, _, _, rfl, _⟩ := h; rfl) (fun f cdv A outer s H vs Q E hr h => by obtain ⟨v1, v2, v3, rfl, h⟩ := h; exact hbody f cdv A outer s H v1 v2 v3 Q E hr h)
theorem Top.ok1X {a : Str} {p : V → Hp → VK → XK → Prop} (D : Top K mg x st [a]) (S : FnScope N [a] (defScope st))
    (hbody : ∀ (f : Addr) (cdv : Value) (A : Around) (outer : List Env) (s : Shared) (H : Hp) (v1 : V) (Q : VK) (E : XK), Room k (A.deeper (envOfC x (defScope st) s.heap.objs.size f cdv)) → p v1 H Q E →
      ∃ t, PSs (cxOf (L2.CX P w) P w K mg base N x (defScope st) f cdv A outer s H E) (defBody st) t ∧ t { nx := fun _ H' => Q .non H', rt := Q } (start N [v1]) H) : Has P w K mg base (L2.CX P w) (k + 1) x [a] (sp1 p) :=
  D.okX S (fun vs H Q E h => by obtain ⟨_, rfl, _⟩ := h; rfl) (fun f cdv A outer s H vs Q E hr h => by obtain ⟨v1, rfl, h⟩ := h; exact hbody f cdv A outer s H v1 Q E hr h)
theorem Top.ok2X {a b : Str} {p : V → V → Hp → VK → XK → Prop} (D : Top K mg x st [a, b]) (S : FnScope N [a, b] (defScope st))
    (hbody : ∀ (f : Addr) (cdv : Value) (A : Around) (outer : List Env) (s : Shared) (H : Hp) (v1 v2 : V) (Q : VK) (E : XK), Room k (A.deeper (envOfC x (defScope st) s.heap.objs.size f cdv)) → p v1 v2 H Q E →
      ∃ t, PSs (cxOf (L2.CX P w) P w K mg base N x (defScope st) f cdv A outer s H E) (defBody st) t ∧ t { nx := fun _ H' => Q .non H', rt := Q } (start N [v1, v2]) H) : Has P w K mg base (L2.CX P w) (k + 1) x [a, b] (sp2 p) :=
  D.okX S (fun vs H Q E h => by obtain ⟨_, _, rfl, _⟩ := h; rfl) (fun f cdv A outer s H vs Q E hr h => by obtain ⟨v1, v2, rfl, h⟩ := h; exact hbody f cdv A outer s H v1 v2 Q E hr h)
theorem Top.ok3X {a b c : Str} {p : V → V → V → Hp → VK → XK → Prop} (D : Top K mg x st [a, b, c]) (S : FnScope N [a, b, c] (defScope st))
    (hbody : ∀ (f : Addr) (cdv : Value) (A : Around) (outer : List Env) (s : Shared) (H : Hp) (v1 v2 v3 : V) (Q : VK) (E : XK), Room k (A.deeper (envOfC x (defScope st) s.heap.objs.size f cdv)) → p v1 v2 v3 H Q E →
      ∃ t, PSs (cxOf (L2.CX P w) P w K mg base N x (defScope st) f cdv A outer s H E) (defBody st) t ∧ t { nx := fun _ H' => Q .non H', rt := Q } (start N [v1, v2, v3]) H) : Has P w K mg base (L2.CX P w) (k + 1) x [a, b, c] (sp3 p) :=
  D.okX S (fun vs H Q E h => by obtain ⟨_, _, _, rfl, _⟩ := h; rfl) (fun f cdv A outer s H vs Q E hr h => by obtain ⟨v1, v2, v3, rfl, h⟩ := h; exact hbody f cdv A outer s H v1 v2 v3 Q E hr h)
end
section
variable {X : Cx} {CX : CXT} {k : Nat} {ps : List Str} {sp : Sp} {E : XK} {x : Str} {p pos : Pos} {e : Expr} {es : List Expr} {t : TA}
/-- f(e, ..): what may be raised is taken by E -/
theorem pe_own (h : Has X.prog X.w X.K X.mg X.base CX k x ps sp) (hr : Room k X.A) (hx : Passes CX X E) (ha : PA X (e :: es) t) (hg : Gl X x := by rfl)
    (hdb : (x == ("__debug__" : Str)) = false := by decide) (he : starEach (e :: es) X.env = (false, eval e X.env) :: starEach es X.env := by rfl) (hpl : (backTo pos (starEach es X.env)).any (·.1) = false := by rfl) :
    PE X (.Call (.Name x p) (e :: es) [] pos) (tCall sp [] E t) := by
  obtain ⟨f, fd, F, g, kp, b, _⟩ := h
  exact pe_call F hr hg g kp b .nil hx ha hdb he hpl
theorem pe_ownS {E : L2.St → XK} (h : Has X.prog X.w X.K X.mg X.base CX k x ps sp) (hr : Room k X.A) (hx : ∀ σ, PassesAt CX X σ (E σ)) (ha : PA X (e :: es) t) (hg : Gl X x := by rfl)
    (hdb : (x == ("__debug__" : Str)) = false := by decide) (he : starEach (e :: es) X.env = (false, eval e X.env) :: starEach es X.env := by rfl) (hpl : (backTo pos (starEach es X.env)).any (·.1) = false := by rfl) :
    PE X (.Call (.Name x p) (e :: es) [] pos) (tCallS sp E t) := by
  obtain ⟨f, fd, F, g, kp, b, _⟩ := h
  exact pe_callS F hr hg g kp b hx ha hdb he hpl
end
/-! ### tests -/
theorem ifD {p A B : Prop} [Decidable p] (h1 : p → A) (h2 : ¬ p → B) : if decide p = true then A else B := by
  by_cases h : p
  · rw [if_pos (decide_eq_true h)]; exact h1 h
  · rw [if_neg (by simp [h])]; exact h2 h
theorem ifN {p A B : Prop} [Decidable p] (h1 : ¬ p → A) (h2 : p → B) : if (!decide p) = true then A else B := by
  by_cases h : p
  · rw [if_neg (by simp [h])]; exact h2 h
  · rw [if_pos (by simp [h])]; exact h1 h
theorem ifI {i j : Int} {A B : Prop} (h1 : i = j → A) (h2 : i ≠ j → B) : if decide (V.int i = V.int j) = true then A else B := ifD (fun e => h1 (V.int.inj e)) (fun e => h2 fun z => e (by rw [z]))
theorem ifNI {i j : Int} {A B : Prop} (h1 : i ≠ j → A) (h2 : i = j → B) : if (!decide (V.int i = V.int j)) = true then A else B := ifN (fun e => h1 fun z => e (by rw [z])) (fun e => h2 (V.int.inj e))
theorem ifB {c : Bool} {A B : Prop} (h1 : c = true → A) (h2 : c = false → B) : if c = true then A else B := by
  cases c with
  | true => exact iteT (h1 rfl)
  | false => exact iteF (h2 rfl)
theorem ifT {c : Bool} {A B : Prop} (e : c = true) (h : A) : if c = true then A else B := by rw [if_pos e]; exact h
theorem ifF {c : Bool} {A B : Prop} (e : c = false) (h : B) : if c = true then A else B := by rw [e]; exact iteF h
/-! ### heaps -/
/-- the list at d begins with the object at c -/
def At (H : Hp) (d c : Addr) : Prop := ∃ r : List V, H d = some (.lst (.ref c :: r))
/-- all but what stands at d is as it was; a list at d keeps its first item -/
structure But (d : Addr) (H H' : Hp) : Prop where
  keep : ∀ b o, b ≠ d → H b = some o → H' b = some o
  hd : ∀ c, At H d c → At H' d c
instance {d : Addr} {H H' : Hp} : CoeFun (But d H H') (fun _ => ∀ b o, b ≠ d → H b = some o → H' b = some o) := ⟨But.keep⟩
theorem But.refl (d : Addr) (H : Hp) : But d H H := ⟨fun _ _ _ h => h, fun _ h => h⟩
theorem But.trans {d : Addr} {H H1 H2 : Hp} (a : But d H H1) (b : But d H1 H2) : But d H H2 := ⟨fun c o n h => b c o n (a c o n h), fun c h => b.hd c (a.hd c h)⟩
theorem _root_.L2.Same.but {d : Addr} {H H1 : Hp} (a : Same H H1) : But d H H1 := ⟨fun c o _ h => a c o h, fun c h => by
  obtain ⟨r, e⟩ := h
  exact ⟨r, a _ _ e⟩⟩
theorem same_new {H : Hp} {p : Addr} {o : HO} (h : H p = none) : Same H (upd H p o) := fun b x e => by
  rw [upd_ne (ne_of_none e h)]
  exact e
theorem same_mut {H H' : Hp} {p : Addr} {o : HO} (e : Same H H') (h : H p = none) : Same H (upd H' p o) := fun a u ha => by
  rw [upd_ne (ne_of_none ha h)]
  exact e a u ha
theorem but_mut {H H' : Hp} {d : Addr} {o : HO} (e : But d H H') (ho : ∀ c, At H' d c → ∃ r : List V, o = .lst (.ref c :: r)) : But d H (upd H' d o) := ⟨fun a u n ha => by
  rw [upd_ne n]
  exact e a u n ha, fun c h => by
  obtain ⟨r, z⟩ := ho c (e.hd c h)
  exact ⟨r, by rw [upd_same, z]⟩⟩
theorem but_mut2 {H H' : Hp} {d p : Addr} {o : HO} (e : But d H H') (h : H p = none) : But d H (upd H' p o) := ⟨fun a u n ha => by
  rw [upd_ne (ne_of_none ha h)]
  exact e a u n ha, fun c k => by
  obtain ⟨r, z⟩ := e.hd c k
  obtain ⟨_, y⟩ := k
  exact ⟨r, by rw [upd_ne (ne_of_none y h)]; exact z⟩⟩
theorem But.free {d : Addr} {H H' : Hp} (e : But d H H') {l : Addr} (n : l ≠ d) (h : H' l = none) : H l = none := by
  cases q : H l with
  | none => rfl
  | some o =>
    rw [e l o n q] at h
    cases h
theorem _root_.L2.Same.tup {K : PySem.W.Frag} {H H' : Hp} {a : Addr} {xs : List V} (e : Same H H') (h : SqT K H a xs) : SqT K H' a xs := by
  rcases h with (h | ⟨o, h⟩) | h
  · exact .inl (.inl (e _ _ h))
  · exact .inl (.inr ⟨o, e _ _ h⟩)
  · exact .inr h
theorem sz {n : Nat} (h : n ≤ 100000) : n ≤ sizeLine := Nat.le_trans h (by decide)
theorem szl {n : Nat} (h : n < 100000) : n < sizeLine := Nat.lt_of_lt_of_le h (by decide)
theorem szM {n : Nat} (h : n ≤ 1000000) : n < sizeLine := Nat.lt_of_le_of_lt h (by decide)
/-! ### arithmetic -/
theorem mul_bd {a b A B : Int} (ha : 0 ≤ a) (ha' : a ≤ A) (hb : 0 ≤ b) (hb' : b ≤ B) : 0 ≤ a * b ∧ a * b ≤ A * B :=
  ⟨Int.mul_nonneg ha hb, Int.mul_le_mul ha' hb' hb (Int.le_trans ha ha')⟩
theorem mod_bd (a : Int) {b : Int} (h : 0 < b) : 0 ≤ a % b ∧ a % b < b := ⟨Int.emod_nonneg a (by omega), Int.emod_lt_of_pos a h⟩
/-! ### xs.count(y), flat items -/
def rCntA (K : PySem.W.Frag) : V → List V → Hp → VK → Prop := fun x xs H Q => ∃ (p : Addr) (ys : List V) (y : V), x = .ref p ∧ xs = [y] ∧ SqL K H p ys ∧ flatV y = true ∧ ys.all flatV = true ∧ Q (.int (ys.countP (fun z => eqV z y) : Nat)) H
theorem countP_eqU {x : V} : ∀ {xs : List V} {us : List Value}, Vals xs us → xs.all flatV = true → us.countP (eqU x) = xs.countP fun y => eqV y x
  | _, _, .nil, _ => rfl
  | y :: xs, u :: us, .cons r t, f => by
    rw [List.all_cons, Bool.and_eq_true] at f
    rw [List.countP_cons, List.countP_cons, eqU_of r f.1, countP_eqU t f.2]
theorem mt_countA {X : Cx} : MtR X "list.count" (rCntA X.K) := by
  intro pins s σ H x xs v us Q I rx rxs h
  obtain ⟨p, ys, y, rfl, rfl, hs, fy, fs, q⟩ := h
  cases rx
  obtain ⟨u, rfl, ru⟩ := rxs.one
  obtain ⟨its, rv, ⟨⟨cls, dd, data, sl⟩, n, ho, hc, hdn, hd⟩, hlen⟩ := I.list hs
  simp only at hc hd
  subst hc hd
  refine call_meets PySem.F.slot_list_count ⟨_, ho, rfl⟩ PySem.F.entry_list_count (PySem.F.args_list_count_2 _ _)
    (SeqAt.list_countAt p its.toArray n dd sl u (eqU y)) ⟨ho, fun z hz => mem_eqAt ru fy rv fs z (by simpa using hz), ?_⟩
  have ec : its.toArray.toList.countP (eqU y) = ys.countP fun z => eqV z y := countP_eqU rv fs
  refine ⟨.int (ys.countP (fun z => eqV z y) : Nat), H, I.tok _, ⟨s.toks, ?_⟩, q⟩
  show Value.int ((its.toArray.toList.countP (eqU y) : Nat) : Int) s.toks = _
  rw [ec]
/-- while True -/
theorem pt_true {X : Cx} {j pos} : PT X (.Constant (.bool true) j pos) (fun _ H Q => Q true H) := by
  have h : PT X (.Constant (.bool true) j pos) (tB (tC (.bl true))) := pt_val pe_bl
  exact ⟨fun pins s σ H Q I q => h.run pins s σ H Q I ⟨true, rfl, q⟩⟩
/-- an item of a list of ints -/
theorem at_ints {ns : List Int} {v : Int} (h0 : 0 ≤ v) (h1 : v < ns.length) : ∃ x, x ∈ ns ∧ atI (ns.map V.int) v = some (.int x) := by
  obtain ⟨j, rfl⟩ := Int.eq_ofNat_of_zero_le h0
  have jl : j < ns.length := by omega
  refine ⟨ns[j], List.getElem_mem jl, atI_nat ?_⟩
  rw [List.getElem?_map, List.getElem?_eq_getElem jl]
  rfl
end Tw

/-! The draws: what each of the common defs promises. -/
namespace Tw
open PySem PySem.Spec PyProof.Rows L2

def pMix : V → V → Hp → VK → XK → Prop := fun a b H Q _ => ∃ c k : Int, a = .int c ∧ b = .int k ∧ 0 ≤ k ∧ k < 1000000000 ∧ ∀ v : Int, 0 ≤ v → Q (.int v) H
/-- a deck: its cells, where it stands, what is left of a great cell, how many were mixed, the sum -/
def Deck (H : Hp) (d : Addr) (n : Nat) : Prop := ∃ (c : Addr) (xs : List Int) (i r k t : Int), H d = some (.lst [.ref c, .int i, .int r, .int k, .int t]) ∧ H c = some (.lst (xs.map V.int)) ∧ c ≠ d ∧ xs.length ≤ 63 ∧ 0 ≤ i ∧ i ≤ (xs.length : Int) ∧ 0 ≤ r ∧ 0 ≤ k ∧ k ≤ (n : Int)
theorem Deck.mono {H : Hp} {d : Addr} {n m : Nat} (h : Deck H d n) (l : n ≤ m) : Deck H d m := by
  obtain ⟨c, xs, i, r, k, t, a1, a2, a3, a4, a5, a6, a7, a8, a9⟩ := h
  exact ⟨c, xs, i, r, k, t, a1, a2, a3, a4, a5, a6, a7, a8, by omega⟩
theorem Deck.same {H H' : Hp} {d : Addr} {n : Nat} (h : Deck H d n) (s : Same H H') : Deck H' d n := by
  obtain ⟨c, xs, i, r, k, t, a1, a2, a3⟩ := h
  exact ⟨c, xs, i, r, k, t, s _ _ a1, s _ _ a2, a3⟩
theorem Deck.ne {H : Hp} {d p : Addr} {n : Nat} (h : Deck H d n) (e : H p = none) : p ≠ d := by
  obtain ⟨c, xs, i, r, k, t, a1, _⟩ := h
  intro z
  rw [z, a1] at e
  cases e
theorem Deck.ne_tup {H : Hp} {d p : Addr} {n : Nat} {xs : List V} (h : Deck H d n) (e : H p = some (.tup xs)) : p ≠ d := by
  obtain ⟨c, xs, i, r, k, t, a1, _⟩ := h
  intro z
  rw [z, a1] at e
  cases e
theorem Deck.fresh {H H' : Hp} {d p : Addr} {n m : Nat} (h : Deck H d n) (h' : Deck H' d m) (b : But d H H') (e : H' p = none) : H p = none := b.free (h'.ne e) e
/-- a list that is none of the deck's -/
def Out (H : Hp) (d L : Addr) : Prop := L ≠ d ∧ ∀ c, At H d c → c ≠ L
theorem Deck.out {H : Hp} {d L : Addr} {n : Nat} {o : HO} (D : Deck H d n) (e : H L = none) : Out (upd H L o) d L := by
  obtain ⟨c, xs, i, r, k, t, a1, a2, a3⟩ := D
  have n1 : L ≠ d := fun z => by rw [z, a1] at e; cases e
  have n2 : c ≠ L := fun z => by rw [← z, a2] at e; cases e
  refine ⟨n1, fun c' h => ?_⟩
  obtain ⟨r', y⟩ := h
  rw [upd_ne (Ne.symm n1), a1] at y
  cases y
  exact n2
theorem Out.but {H H' : Hp} {d L : Addr} {n m : Nat} (h : Out H d L) (D : Deck H d n) (D' : Deck H' d m) (b : But d H H') : Out H' d L := by
  obtain ⟨c, xs, i, r, k, t, a1, a2, a3⟩ := D
  obtain ⟨r1, e1⟩ := b.hd c ⟨_, a1⟩
  refine ⟨h.1, fun c' hc => ?_⟩
  obtain ⟨r2, e2⟩ := hc
  rw [e1] at e2
  cases e2
  exact h.2 _ ⟨_, a1⟩
theorem Out.mut {H : Hp} {d L : Addr} {o : HO} (h : Out H d L) : Out (upd H L o) d L := ⟨h.1, fun c hc => h.2 c (by
  obtain ⟨r, e⟩ := hc
  rw [upd_ne (Ne.symm h.1)] at e
  exact ⟨r, e⟩)⟩
theorem Deck.mut {H : Hp} {d L : Addr} {n : Nat} {o : HO} (D : Deck H d n) (h : Out H d L) : Deck (upd H L o) d n := by
  obtain ⟨c, xs, i, r, k, t, a1, a2, a3⟩ := D
  exact ⟨c, xs, i, r, k, t, by rw [upd_ne (Ne.symm h.1)]; exact a1, by rw [upd_ne (h.2 c ⟨_, a1⟩)]; exact a2, a3⟩
def pDeck (K : PySem.W.Frag) : V → Hp → VK → XK → Prop := fun a H Q _ => ∃ (s : Addr) (xs : List Int), a = .ref s ∧ SqL K H s (xs.map V.int) ∧ ∀ H' d, Same H H' → H d = none → Deck H' d 0 → Q (.ref d) H'
/-- a draw below m -/
def pNext (c : Nat) : V → V → Hp → VK → XK → Prop := fun a b H Q _ => ∃ (d : Addr) (n : Nat) (m : Int), a = .ref d ∧ b = .int m ∧ 0 < m ∧ m < 1000000000000000000000000000000000000000000 ∧ Deck H d n ∧ n + c ≤ 100000000 ∧
  ∀ (H' : Hp) (v : Int), But d H H' → Deck H' d (n + c) → 0 ≤ v → v < m → Q (.int v) H'
/-- a bound -/
def pBound : V → V → Hp → VK → XK → Prop := fun a b H Q _ => ∃ (d : Addr) (n : Nat) (m : Int), a = .ref d ∧ b = .int m ∧ 100 ≤ m ∧ m ≤ 1000000000000 ∧ Deck H d n ∧ n < 90000000 ∧
  ∀ (H' : Hp) (v : Int), But d H H' → Deck H' d (n + 50) → 1 ≤ v → v ≤ m → Q (.int v) H'
/-- a rule (times, plus, bound), read at r -/
structure Rule (t p b : Int) : Prop where
  b1 : 1 ≤ b
  b2 : b ≤ 1000000000000
  t0 : 0 ≤ t
  t1 : t < b
  p0 : 0 ≤ p
  p1 : p < b
def pRule : V → V → Hp → VK → XK → Prop := fun a b H Q _ => ∃ (d : Addr) (n : Nat) (m : Int), a = .ref d ∧ b = .int m ∧ 100 ≤ m ∧ m ≤ 1000000000000 ∧ Deck H d n ∧ n < 80000000 ∧
  ∀ (H' : Hp) (r : Addr) (t p b : Int), But d H H' → Deck H' d (n + 60) → H r = none → H' r = some (.tup [.int t, .int p, .int b]) → Rule t p b → b ≤ m → Q (.ref r) H'
theorem cut_take (xs : List V) (n : Nat) : cutV xs none (some (n : Int)) = xs.take n := by
  unfold cutV
  rw [HT.sIx_none, HT.sIx_nat]
  show List.take (min n xs.length - 0) (List.drop 0 xs) = _
  rw [List.drop_zero, Nat.sub_zero]
  by_cases h : n ≤ xs.length
  · rw [Nat.min_eq_left h]
  · rw [Nat.min_eq_right (by omega), List.take_of_length_le (Nat.le_refl _), List.take_of_length_le (by omega)]
/-- the classes of the refusals as the top has left them -/
structure Err (K : PySem.W.Frag) (mg : Str → Option Value) (CR CA CB CF CN CU : Addr) : Prop where
  gR : mg "RowError" = some (.ref CR)
  gA : mg "NoAsk" = some (.ref CA)
  gB : mg "NoBack" = some (.ref CB)
  gF : mg "NoFit" = some (.ref CF)
  gN : mg "NoNumber" = some (.ref CN)
  gU : mg "NoRule" = some (.ref CU)
/-- an error's class against all: which of the five it is -/
structure Kit (K : PySem.W.Frag) (C CR CA CB CF CN CU : Addr) (a b f n u : Bool) : Prop where
  xc : XcC K C
  r : PySem.W.kitOne K (.ref C) (.ref CR) = some true
  v : PySem.W.kitOne K (.ref C) (.type "ValueError") = some true
  a : PySem.W.kitOne K (.ref C) (.ref CA) = some a
  b : PySem.W.kitOne K (.ref C) (.ref CB) = some b
  f : PySem.W.kitOne K (.ref C) (.ref CF) = some f
  n : PySem.W.kitOne K (.ref C) (.ref CN) = some n
  u : PySem.W.kitOne K (.ref C) (.ref CU) = some u
/-- a number that is none: kept by the error -/
def pKindN (CN : Addr) : V → Hp → VK → XK → Prop := fun a H Q _ => ∃ (e dd : Addr) (v : V), a = .ref e ∧ H e = some (exv e (.ref CN) (some dd)) ∧ H dd = some (.xd [("number", v)]) ∧
  ∀ H' p, Same H H' → H p = none → H' p = some (.tup [.str "number", v]) → Q (.ref p) H'
/-- a number that is none of a bound's -/
def pWrong : V → V → Hp → VK → XK → Prop := fun a b H Q _ => ∃ (d : Addr) (n : Nat) (m : Int), a = .ref d ∧ b = .int m ∧ 0 < m ∧ m ≤ 1000000000000 ∧ Deck H d n ∧ n + 4 ≤ 100000000 ∧
  ∀ (H' : Hp) (v : Int), But d H H' → Deck H' d (n + 4) → (v < 0 ∨ m ≤ v) → Q (.int v) H'
end Tw

/-! The program's steps and rounds: the mathematics of a walk, and the promises. -/
namespace Tw
open PySem PySem.Spec PyProof.Rows L2

/-! ### walks -/
def stp (t p m x : Int) : Int := (t * x + p) % m
theorem stp_rng {t p m : Int} (h : 0 < m) (x : Int) : 0 ≤ stp t p m x ∧ stp t p m x < m := mod_bd _ h
def wk (f : Int → Int) : Nat → List Int → Int → List Int × Int
  | 0, ws, x => (ws, x)
  | k + 1, ws, x => if x ∈ ws then (ws, x) else wk f k (ws ++ [x]) (f x)
theorem wk_in {f : Int → Int} {ws : List Int} {x : Int} (h : x ∈ ws) : ∀ k, wk f k ws x = (ws, x)
  | 0 => rfl
  | k + 1 => by unfold wk; rw [if_pos h]
theorem wk_out {f : Int → Int} {ws : List Int} {x : Int} (h : x ∉ ws) (k : Nat) : wk f (k + 1) ws x = wk f k (ws ++ [x]) (f x) := by
  conv => lhs; unfold wk
  rw [if_neg h]
theorem nat_len : ∀ (n : Nat) (l : List Nat), l.Nodup → (∀ x ∈ l, x < n) → l.length ≤ n
  | 0, l, _, h => by
    cases l with
    | nil => exact Nat.le_refl _
    | cons a r => exact absurd (h a List.mem_cons_self) (Nat.not_lt_zero _)
  | n + 1, l, nd, h => by
    by_cases hn : n ∈ l
    · have ih := nat_len n (l.erase n) (nd.erase n) (fun x hx => by
        obtain ⟨h1, h2⟩ := nd.mem_erase_iff.mp hx
        have := h x h2
        omega)
      rw [List.length_erase_of_mem hn] at ih
      omega
    · have ih := nat_len n l nd (fun x hx => by
        have := h x hx
        have : x ≠ n := fun e => hn (e ▸ hx)
        omega)
      omega
def Rng (m : Int) (ws : List Int) : Prop := ∀ x ∈ ws, 0 ≤ x ∧ x < m
theorem int_len {m : Int} {ws : List Int} (nd : ws.Nodup) (h : Rng m ws) : ws.length ≤ m.toNat := by
  have h1 : (ws.map Int.toNat).Nodup := by
    rw [List.nodup_iff_pairwise_ne] at nd ⊢
    rw [List.pairwise_map]
    refine List.Pairwise.imp_of_mem (fun {a b} ha hb hne => ?_) nd
    have := h a ha
    have := h b hb
    omega
  have := nat_len m.toNat (ws.map Int.toNat) h1 (fun x hx => by
    obtain ⟨y, hy, rfl⟩ := List.mem_map.mp hx
    have := h y hy
    omega)
  rw [List.length_map] at this
  exact this
theorem nodup_snoc {ws : List Int} {x : Int} (nd : ws.Nodup) (h : x ∉ ws) : (ws ++ [x]).Nodup := by
  rw [List.nodup_append]
  refine ⟨nd, by simp, fun a ha b hb => ?_⟩
  rw [List.mem_singleton] at hb
  subst hb
  exact fun e => h (e ▸ ha)
theorem rng_snoc {m : Int} {ws : List Int} {x : Int} (h : Rng m ws) (hx : 0 ≤ x ∧ x < m) : Rng m (ws ++ [x]) := fun y hy => by
  rcases List.mem_append.mp hy with hy | hy
  · exact h y hy
  · rw [List.mem_singleton.mp hy]; exact hx
theorem wk_good {t p m : Int} (m0 : 0 < m) : ∀ (k : Nat) (ws : List Int) (x : Int), ws.Nodup → Rng m ws → 0 ≤ x ∧ x < m → m.toNat + 1 ≤ k + ws.length →
    (wk (stp t p m) k ws x).1.Nodup ∧ Rng m (wk (stp t p m) k ws x).1 ∧ (wk (stp t p m) k ws x).2 ∈ (wk (stp t p m) k ws x).1
  | 0, ws, x, nd, rg, hx, hk => by
    have := int_len nd rg
    omega
  | k + 1, ws, x, nd, rg, hx, hk => by
    by_cases h : x ∈ ws
    · rw [wk_in h]
      exact ⟨nd, rg, h⟩
    · rw [wk_out h]
      exact wk_good m0 k (ws ++ [x]) (stp t p m x) (nodup_snoc nd h) (rng_snoc rg hx) (stp_rng m0 x) (by rw [List.length_append]; show m.toNat + 1 ≤ k + (ws.length + 1); omega)
/-! ### a dict of places -/
def enumD : Nat → List Int → List (Key × V)
  | _, [] => []
  | i, w :: ws => (Sum.inl w, V.int (i : Int)) :: enumD (i + 1) ws
theorem enumD_len : ∀ (i : Nat) (ws : List Int), (enumD i ws).length = ws.length
  | _, [] => rfl
  | i, w :: ws => by show (enumD (i + 1) ws).length + 1 = ws.length + 1; rw [enumD_len]
theorem enumD_snoc : ∀ (i : Nat) (ws : List Int) (x : Int), enumD i (ws ++ [x]) = enumD i ws ++ [(Sum.inl x, V.int ((i + ws.length : Nat) : Int))]
  | i, [], x => rfl
  | i, w :: ws, x => by
    show (Sum.inl w, V.int (i : Int)) :: enumD (i + 1) (ws ++ [x]) = (Sum.inl w, V.int (i : Int)) :: enumD (i + 1) ws ++ [(Sum.inl x, V.int ((i + (ws.length + 1) : Nat) : Int))]
    rw [enumD_snoc, show i + 1 + ws.length = i + (ws.length + 1) by omega]
    rfl
theorem enumD_none : ∀ (i : Nat) {ws : List Int} {x : Int}, x ∉ ws → valV (enumD i ws) (Sum.inl x) = none
  | _, [], _, _ => rfl
  | i, w :: ws, x, h => by
    show valV ((Sum.inl w, V.int (i : Int)) :: enumD (i + 1) ws) (Sum.inl x) = none
    rw [valV_neg (fun e => h (by rw [← Sum.inl.inj e]; exact List.mem_cons_self))]
    exact enumD_none (i + 1) (fun hm => h (List.mem_cons_of_mem _ hm))
theorem enumD_some : ∀ (i : Nat) {ws : List Int} {x : Int}, x ∈ ws → valV (enumD i ws) (Sum.inl x) = some (V.int ((i + ws.idxOf x : Nat) : Int))
  | i, w :: ws, x, h => by
    show valV ((Sum.inl w, V.int (i : Int)) :: enumD (i + 1) ws) (Sum.inl x) = _
    by_cases e : w = x
    · subst e
      rw [valV_pos rfl, List.idxOf_cons_self]
      rfl
    · have e2 : (w :: ws).idxOf x = ws.idxOf x + 1 := by
        rw [List.idxOf_cons]
        simp [beq_eq_false_iff_ne.mpr e]
      rw [valV_neg (fun z => e (Sum.inl.inj z)), e2, enumD_some (i + 1) ((List.mem_cons.mp h).resolve_left (fun z => e z.symm))]
      congr 2
      omega
theorem upd_self {H : Hp} {a : Addr} {o : HO} (h : H a = some o) : upd H a o = H := by
  funext b
  by_cases e : b = a
  · rw [e, upd_same, h]
  · rw [upd_ne e]
theorem sqT_upd {K : PySem.W.Frag} {H : Hp} {r a : Addr} {xs : List V} {o u : HO} (h : SqT K H r xs) (ha : H a = some u) (n1 : ∀ ys, u ≠ .tup ys) (n2 : ∀ ob v, u ≠ .frz ob v) : SqT K (upd H a o) r xs := by
  rcases h with (h | ⟨ob, h⟩) | h
  · refine .inl (.inl ?_)
    rw [upd_ne (fun e => n1 xs (by rw [e, ha] at h; exact Option.some.inj h))]
    exact h
  · refine .inl (.inr ⟨ob, ?_⟩)
    rw [upd_ne (fun e => n2 ob _ (by rw [e, ha] at h; exact Option.some.inj h))]
    exact h
  · exact .inr h
/-! ### refusals -/
/-- the error behind a number that is none: its own dict d, new -/
def Bad (CN : Addr) (n : Int) (H : Hp) (E : XK) : Prop := ∀ d, H d = none → E (.ref CN) (some d) (upd H d (.xd [("number", .int n)]))
theorem made_eq {H : Hp} {a d : Addr} {C : Addr} {fs : List (Str × V)} (na : H a = none) (nd : d ≠ a) :
    upd (L2.del (upd (upd (upd H a (exo a C none)) d (exd d fs)) a (exo a C (some d))) a) d (.xd fs) = upd H d (.xd fs) := by
  funext b
  by_cases hb : b = d
  · rw [hb, upd_same, upd_same]
  · rw [upd_ne hb, upd_ne hb]
    by_cases ha : b = a
    · rw [ha, del_same, na]
    · rw [del_ne ha, upd_ne ha, upd_ne hb, upd_ne ha]
def spInit (K : PySem.W.Frag) : Sp := sp2 fun x v H Q _ => ∃ (a C : Addr), x = .ref a ∧ OexC K C ∧ PySem.W.findIn K (.ref C) "number" = some none ∧ H a = some (exo a C none) ∧ ∀ d, H d = none → d ≠ a → Q .non (upd (upd H d (exd d [("number", v)])) a (exo a C (some d)))
def pWhole : V → Hp → VK → XK → Prop := fun a H Q _ => ∃ n : Int, a = .int n ∧ Q (.bl true) H
def pIsNum : V → V → Hp → VK → XK → Prop := fun a b H Q _ => ∃ n m : Int, a = .int n ∧ b = .int m ∧ Q (.bl (decide (0 ≤ n ∧ n < m))) H
def pCheck (CN : Addr) : V → V → Hp → VK → XK → Prop := fun a b H Q E => ∃ n m : Int, a = .int n ∧ b = .int m ∧ (0 ≤ n → n < m → Q .non H) ∧ (¬ (0 ≤ n ∧ n < m) → Bad CN n H E)
def pNextOf (K : PySem.W.Frag) (CN : Addr) : V → V → Hp → VK → XK → Prop := fun a b H Q E => ∃ (r : Addr) (t p m n : Int), a = .ref r ∧ b = .int n ∧ SqT K H r [.int t, .int p, .int m] ∧ Rule t p m ∧
  (0 ≤ n → n < m → Q (.int (stp t p m n)) H) ∧ (¬ (0 ≤ n ∧ n < m) → Bad CN n H E)
def pWalk (K : PySem.W.Frag) : V → V → V → Hp → VK → XK → Prop := fun a b c H Q _ => ∃ (r : Addr) (t p m s : Int) (l : Addr) (ws : List Int), a = .ref r ∧ b = .int s ∧ c = .ref l ∧ SqT K H r [.int t, .int p, .int m] ∧ Rule t p m ∧ m ≤ 1000000 ∧ 0 ≤ s ∧ s < m ∧
  H l = some (.dK (enumD 0 ws)) ∧ ws.Nodup ∧ Rng m ws ∧ Q (.int (wk (stp t p m) (m.toNat + 1 - ws.length) ws s).2) (upd H l (.dK (enumD 0 (wk (stp t p m) (m.toNat + 1 - ws.length) ws s).1)))
/-- tail and length -/
def rndW (t p m s : Int) : List Int × Int := wk (stp t p m) (m.toNat + 1) [] s
def rndT (t p m s : Int) : Int := (((rndW t p m s).1.idxOf (rndW t p m s).2 : Nat) : Int)
def rndL (t p m s : Int) : Int := ((rndW t p m s).1.length : Int) - rndT t p m s
def pRound (K : PySem.W.Frag) (CN : Addr) : V → V → Hp → VK → XK → Prop := fun a b H Q E => ∃ (r : Addr) (t p m s : Int), a = .ref r ∧ b = .int s ∧ SqT K H r [.int t, .int p, .int m] ∧ Rule t p m ∧ m ≤ 1000000 ∧
  (0 ≤ s → s < m → ∀ H' q, Same H H' → H q = none → H' q = some (.tup [.int (rndT t p m s), .int (rndL t p m s)]) → Q (.ref q) H') ∧ (¬ (0 ≤ s ∧ s < m) → Bad CN s H E)
def pRoundL (K : PySem.W.Frag) : V → V → Hp → VK → XK → Prop := fun a b H Q _ => ∃ (r : Addr) (t p m s : Int), a = .ref r ∧ b = .int s ∧ SqT K H r [.int t, .int p, .int m] ∧ Rule t p m ∧ m ≤ 1000000 ∧ 0 ≤ s ∧ s < m ∧
  ∀ H' q, Same H H' → H q = none → H' q = some (.tup [.int (rndT t p m s), .int (rndL t p m s)]) → Q (.ref q) H'
/-- a refusal that was asked for: True -/
def pRefR (K : PySem.W.Frag) : V → V → Hp → VK → XK → Prop := fun a b H Q _ => ∃ (r : Addr) (t p m n : Int), a = .ref r ∧ b = .int n ∧ SqT K H r [.int t, .int p, .int m] ∧ Rule t p m ∧ m ≤ 1000000 ∧ (n < 0 ∨ m ≤ n) ∧ ∀ H', Same H H' → Q (.bl true) H'
/-- data that are alike -/
theorem eqv_self {d : PyData} (h : SeqAt.shaped d = true) : PyData.eqv d d = true := SeqAt.eqv_refl d (SeqAt.canLay_of_shaped h)
theorem shp_sn (n : Int) : SeqAt.shaped (.tuple [.str "number", .int n]) = true := by
  have h : PyData.canLay0 (.str "number") = true := by decide +kernel
  show (PyData.canLay0 (.tuple [.str "number", .int n]) && decide (PyData.depth (.tuple [.str "number", .int n]) ≤ 64)) = true
  simp [PyData.canLay0, PyData.canLayAll0] at h ⊢
  exact ⟨h, of_decide_eq_true rfl⟩
theorem dp_ints {K : PySem.W.Frag} {H : Hp} : ∀ ns : List Int, DpAll K H (ns.map V.int) (ns.map PyData.int)
  | [] => .nil
  | n :: ns => .cons (.int n) (dp_ints ns)
/-! ### what the top has left -/
theorem top_mk {K : PySem.W.Frag} {h : Heap} {mg : Str → Option Value} {x : Str} {st : Stmt} {ps : List Str} {f : Addr} {oc : Value} {od an : Option Addr} {sl : Array (Option Value)} {kV dc pm cd ct : Value} (X : K.In h) (G : h.Ns mainGlobals mg)
    (a : PySem.W.nsIn K mainGlobals x = some (some (.ref f))) (l : K.lookup f = some ⟨oc, od, .func (PySem.W.fnOf x x (defArgs st) (defBody st) (defScope st) .none kV dc pm an cd ct), sl⟩) (c : PySem.W.codeIn K cd x = true) (k : PySem.W.keepIn K (.ref f) = true)
    (hb : ∀ (kV doc pm : Value) (an : Option Addr) (cdv ct : Value) (us : List Value), us.length = ps.length → bindArgs (PySem.W.fnOf x x (defArgs st) (defBody st) (defScope st) .none kV doc pm an cdv ct) ⟨us, []⟩ = pure (ps.zip us)) : Top K mg x st ps :=
  ⟨f, _, fun_mk l c k, PySem.W.mg_of X G a, (fun_mk l c k).binds hb⟩
end Tw

/-! zip of two and of three, lists and tuples in any mix. -/
namespace Tw
open PySem PySem.Spec PyProof.Rows L2

/-- at a stands a list, or (true) a tuple -/
def SqX (K : PySem.W.Frag) : Bool → Hp → Addr → List V → Prop
  | true => SqT K
  | false => SqL K
def ItX : Bool → Heap → Addr → Addr → Nat → Prop
  | true, h, it, a, i => h.IsTupleIter it a i
  | false, h, it, a, i => h.IsListIter it a i
def AtX : Bool → Heap → Addr → Array Value → Prop
  | true, h, a, its => h.IsTuple a its
  | false, h, a, its => h.IsList a its
theorem ItX.obj {t : Bool} {h : Heap} {it a : Addr} {i : Nat} (q : ItX t h it a i) : ∃ o, h.get? it = some o ∧ ∀ v, o.data ≠ .cell v := by
  cases t with
  | true =>
    obtain ⟨o1, e1, _, d1⟩ := q
    exact ⟨o1, e1, fun v q => by rw [d1] at q; cases q⟩
  | false =>
    obtain ⟨o1, e1, _, d1⟩ := q
    exact ⟨o1, e1, fun v q => by rw [d1] at q; cases q⟩
theorem ItX.over {t : Bool} {h h' : Heap} {it a : Addr} {i : Nat} (q : ItX t h it a i) (k : ∀ o, h.get? it = some o → h'.get? it = some o) : ItX t h' it a i := by
  cases t with
  | true => exact Heap.IsTupleIter.at q k
  | false => exact Heap.IsListIter.at q k
theorem drawsX {prog : Program} {w : World} {A : Around} (t : Bool) (hh : A.handled = none) (it a : Addr) (ne : a ≠ it) (its : Array Value) : Draws prog w A it [it, a] its.size (fun i v => its[i]? = some v) (fun i h => ItX t h it a i ∧ AtX t h a its) := by
  cases t with
  | true => exact Draws.tuple hh it a ne its
  | false => exact Draws.list hh it a ne its
theorem beginsX (t : Bool) (a : Addr) (its : Array Value) : ∃ o, Begins (.ref a) o (fun h => AtX t h a its) ∧ ∀ (h : Heap) (it : Addr), h.get? it = some o → ItX t h it a 0 := by
  cases t with
  | true => exact ⟨_, begins_tuple a its, fun h it e => ⟨_, e, rfl, rfl⟩⟩
  | false => exact ⟨_, begins_list a its, fun h it e => ⟨_, e, rfl, rfl⟩⟩
theorem valsX2 {x y : V} {us : List Value} (r : Vals [x, y] us) : ∃ u v, us = [u, v] ∧ RelV x u ∧ RelV y v := by
  cases r with
  | cons a r =>
    cases r with
    | cons b r =>
      cases r
      exact ⟨_, _, rfl, a, b⟩
theorem valsX3 {x y z : V} {us : List Value} (r : Vals [x, y, z] us) : ∃ u v w, us = [u, v, w] ∧ RelV x u ∧ RelV y v ∧ RelV z w := by
  cases r with
  | cons a r =>
    obtain ⟨u, v, rfl, b, c⟩ := valsX2 r
    exact ⟨_, _, _, rfl, a, b, c⟩
theorem neN' {a b : Nat} (h : ¬ a = b) : (a : Addr) ≠ b := h
theorem nin2 {a b c : Nat} (h : ¬ a = b) (h' : ¬ a = c) : (a : Addr) ∉ ([b, c] : List Addr) := fun m => by
  rcases List.mem_cons.mp m with e | m
  · exact h e
  · exact h' (List.mem_singleton.mp m)
theorem sepX2 (n a b : Nat) (la : a < n) (lb : b < n) : ZipSep2 (n + 4) (n + 2) (n + 3) n (n + 1) [n, a] [n + 1, b] := by
  constructor <;> first | exact List.mem_cons_self | (refine neN' ?_; omega) | (refine nin2 ?_ ?_ <;> omega)
theorem sepX3 (n a b c : Nat) (la : a < n) (lb : b < n) (lc : c < n) : ZipSep3 (n + 5) (n + 3) (n + 4) n (n + 1) (n + 2) [n, a] [n + 1, b] [n + 2, c] := by
  constructor <;> first | exact List.mem_cons_self | (refine neN' ?_; omega) | (refine nin2 ?_ ?_ <;> omega)
theorem farX (n a k : Nat) (la : a < n) : (a : Addr) ≠ n + k := by
  refine neN' ?_
  omega
theorem lo5 {n c : Nat} (h : (c : Addr) ∈ ([n + 4, n + 2, n + 3, n, n + 1] : List Addr)) : n ≤ c := by
  have h' : c ∈ ([n + 4, n + 2, n + 3, n, n + 1] : List Nat) := h
  simp at h'
  omega
theorem lo6 {n c : Nat} (h : (c : Addr) ∈ ([n + 5, n + 3, n + 4, n, n + 1, n + 2] : List Addr)) : n ≤ c := by
  have h' : c ∈ ([n + 5, n + 3, n + 4, n, n + 1, n + 2] : List Nat) := h
  simp at h'
  omega
section
variable {X : Cx} {pins : List (Addr × Obj)} {σ : L2.St} {H : Hp} {s : Shared} {t : Bool} {a : Addr} {xs ys : List V}
theorem srcX (I : Inv X pins σ H s) (q : SqX X.K t H a xs) : ∃ its : List Value, Vals xs its ∧ AtX t s.heap a its.toArray ∧ a < s.heap.objs.size := by
  cases t with
  | true =>
    obtain ⟨its, rv, p, _⟩ := I.tuple q
    obtain ⟨o1, ho1, _⟩ := id p
    exact ⟨its, rv, p, Heap.lt_size ho1⟩
  | false =>
    obtain ⟨its, rv, p, _⟩ := I.list q
    exact ⟨its, rv, p.isList, p.lt⟩
theorem injX (I : Inv X pins σ H s) (q : SqX X.K t H a xs) (q' : SqX X.K t H a ys) : xs = ys := by
  cases t with
  | true => exact I.tuple_inj q q'
  | false => exact I.list_inj q q'
end

/-! ### 2 -/
def Itx2 (K : PySem.W.Frag) (t1 t2 : Bool) (a1 a2 : Addr) : It :=
  ⟨fun i H => ∃ (l1 l2 : List V) (x1 x2 : V), SqX K t1 H a1 l1 ∧ SqX K t2 H a2 l2 ∧ l1[i]? = some x1 ∧ l2[i]? = some x2,
    fun i H v H' => ∃ T x1 x2, v = .ref T ∧ H T = none ∧ H' = upd H T (.tup [x1, x2]) ∧ (∀ l, SqX K t1 H a1 l → l[i]? = some x1) ∧ (∀ l, SqX K t2 H a2 l → l[i]? = some x2),
    fun i H => ∃ l1 l2 : List V, SqX K t1 H a1 l1 ∧ SqX K t2 H a2 l2 ∧ i ≤ l1.length ∧ i ≤ l2.length ∧ (i = l1.length ∨ i = l2.length)⟩
theorem turn_x2 {P : Program} {w : World} {K : PySem.W.Frag} {elts : List Expr} {kk : Nat} {tpos : Pos} {t1 t2 : Bool} {a1 a2 z TI TO i1 i2 : Addr} (S : ZipSep2 z TI TO i1 i2 [i1, a1] [i2, a2]) (n1 : a1 ≠ i1) (n2 : a2 ≠ i2) :
    Turn P w K (.Tuple elts kk tpos) (Itx2 K t1 t2 a1 a2) [z, TI, TO, i1, i2] z (fun i h => IsZip h z TI TO .none ∧ IsTupOf2 h TI (.ref i1) (.ref i2) ∧ (∃ y1 y2, IsTupOf2 h TO y1 y2) ∧ ItX t1 h i1 a1 i ∧ ItX t2 h i2 a2 i) where
  mem := by simp
  obj := fun i h st c hc => by
    obtain ⟨hz, hTI, ⟨y1, y2, hTO⟩, h1, h2⟩ := st
    have e' : c = z ∨ c = TI ∨ c = TO ∨ c = i1 ∨ c = i2 := by simpa using hc
    rcases e' with q | q | q | q | q
    · rw [q]; exact ⟨_, hz, fun v q => nomatch q⟩
    · rw [q]; exact ⟨_, hTI, fun v q => nomatch q⟩
    · rw [q]; exact ⟨_, hTO, fun v q => nomatch q⟩
    · rw [q]; exact h1.obj
    · rw [q]; exact h2.obj
  keep := fun i h h' st k => by
    obtain ⟨hz, hTI, ⟨y1, y2, hTO⟩, h1, h2⟩ := st
    exact ⟨k z (by simp) _ hz, k TI (by simp) _ hTI, ⟨y1, y2, k TO (by simp) _ hTO⟩, h1.over fun o q => k i1 (by simp) o q, h2.over fun o q => k i2 (by simp) o q⟩
  item := by
    intro X hP hw hK hc i pins s σ H E I hf st hg
    subst hP hw hK
    obtain ⟨hz, hTI, ⟨y1, y2, hTO⟩, h1, h2⟩ := st
    obtain ⟨l1, l2, x1, x2, q1, q2, g1, g2⟩ := hg
    obtain ⟨s1, r1, p1, _⟩ := srcX I q1
    obtain ⟨u1, w1, v1⟩ := r1.get g1
    obtain ⟨s2, r2, p2, _⟩ := srcX I q2
    obtain ⟨u2, w2, v2⟩ := r2.get g2
    have hh : X.A.in1.handled = none := I.ok.hd hc
    have hzl : z < s.heap.objs.size := Heap.lt_size hz
    refine wpAny_pyNext_zipD2_item S (drawsX t1 hh i1 a1 n1 s1.toArray) (drawsX t2 hh i2 a2 n2 s2.toArray) hz hTI hTO ⟨h1, p1⟩ ⟨h2, p2⟩ (by have := (List.getElem?_eq_some_iff.mp w1).1; simpa using this) (by have := (List.getElem?_eq_some_iff.mp w2).1; simpa using this) fun z1 z2 h' tk e1 e2 z' TO' k1 k2 hT hsz hk => ?_
    obtain rfl : z1 = u1 := by
      rw [List.getElem?_toArray] at e1
      exact Option.some.inj (e1.symm.trans w1)
    obtain rfl : z2 = u2 := by
      rw [List.getElem?_toArray] at e2
      exact Option.some.inj (e2.symm.trans w2)
    refine ⟨_, rfl, wpAny_letOwnedTupleGo_zip (s := { s with heap := h', toks := tk }) z' fun h'' z'' sb => ?_⟩
    have hT2 : h''.get? s.heap.objs.size = some { cls := .type "tuple", data := .seq #[z1, z2] } := (sb.2 _ (Nat.ne_of_gt hzl)).trans hT
    have new : ObjOk X.prog X.w (upd H s.heap.objs.size (.tup [x1, x2])) h'' s.heap.objs.size (.tup [x1, x2]) :=
      ⟨by show 2 ≤ sizeLine; decide, [z1, z2], .cons v1 (.cons v2 .nil), ⟨_, hT2, rfl, _, rfl⟩⟩
    have I1 : Inv X pins σ (upd H s.heap.objs.size (.tup [x1, x2])) { s with heap := h'', toks := tk } :=
      I.turnedNew (t' := tk) (ch := [z, TI, TO, i1, i2]) (fun c o hb q => (sb.2 c (fun q' => hb (by simp [q']))).trans (hk c o (fun q' => hb (by simp [q'])) (fun q' => hb (by simp [q'])) (fun q' => hb (by simp [q'])) (fun q' => hb (by simp [q'])) q)) hf (Nat.le_refl _) new
    refine ⟨.ref s.heap.objs.size, _, I1, rfl, ⟨_, x1, x2, rfl, I.hok.fresh (Nat.le_refl _), rfl, fun l hl => by rw [injX I hl q1]; exact g1, fun l hl => by rw [injX I hl q2]; exact g2⟩, ⟨z'', ?_, ⟨z1, z2, ?_⟩, ?_, ?_⟩, fun c hcm => ?_⟩
    · exact (sb.2 _ S.TIz).trans (hk _ _ S.TIz S.TITO S.TIi1 S.TIi2 hTI)
    · exact (sb.2 _ S.TOz).trans TO'
    · exact k1.1.over fun o q => (sb.2 _ (Ne.symm S.zi1)).trans q
    · exact k2.1.over fun o q => (sb.2 _ (Ne.symm S.zi2)).trans q
    · have hlt : c < s.heap.objs.size := by
        have e' : c = z ∨ c = TI ∨ c = TO ∨ c = i1 ∨ c = i2 := by simpa using hcm
        rcases e' with q | q | q | q | q
        · rw [q]; exact hzl
        · rw [q]; exact Heap.lt_size hTI
        · rw [q]; exact Heap.lt_size hTO
        · rw [q]; obtain ⟨_, e1, _⟩ := h1.obj; exact Heap.lt_size e1
        · rw [q]; obtain ⟨_, e1, _⟩ := h2.obj; exact Heap.lt_size e1
      rw [upd_ne (Nat.ne_of_lt hlt)]
      exact (hf c hcm).1
  done := by
    intro X hP hw hK hc i pins s σ H E I hf st hg
    subst hP hw hK
    obtain ⟨hz, hTI, ⟨y1, y2, hTO⟩, h1, h2⟩ := st
    obtain ⟨l1, l2, q1, q2, b1, b2, hend⟩ := hg
    obtain ⟨s1, r1, p1, _⟩ := srcX I q1
    have c1 := r1.length
    obtain ⟨s2, r2, p2, _⟩ := srcX I q2
    have c2 := r2.length
    have hh : X.A.in1.handled = none := I.ok.hd hc
    refine wpAny_pyNext_zipD2_end S (drawsX t1 hh i1 a1 n1 s1.toArray) (drawsX t2 hh i2 a2 n2 s2.toArray) hz hTI hTO ⟨h1, p1⟩ ⟨h2, p2⟩ (by simp only [List.size_toArray]; omega) (by simp only [List.size_toArray]; omega) ?_ fun h' tk hk => ⟨rfl, I.turnedL (t' := tk) (ch := [z, TI, TO, i1, i2]) (fun c o hb q =>
      hk c o (fun q' => hb (by simp [q'])) (fun q' => hb (by simp [q'])) (fun q' => hb (by simp [q'])) (fun q' => hb (by simp [q'])) q) hf⟩
    simp only [List.size_toArray]
    omega
  self := fun A i s Q E st h => wpAny_pyIter_zip st.1 h
def iX2 (K : PySem.W.Frag) (ta : TA) : TI := fun σ H R => ta σ H fun vs H1 => ∃ (t1 t2 : Bool) (a1 a2 : Addr) (l1 l2 : List V), vs = [.ref a1, .ref a2] ∧ SqX K t1 H1 a1 l1 ∧ SqX K t2 H1 a2 l2 ∧ R (Itx2 K t1 t2 a1 a2) H1
theorem pi_x2 {X : Cx} {e1 e2 : Expr} {ta : TA} {p pos tpos : Pos} {elts : List Expr} {kk : Nat} (hg : Gl X "zip") (hm : X.mg "zip" = none) (ha : PA X [e1, e2] ta)
    (hs : starEach [e1, e2] X.env = (false, eval e1 X.env) :: starEach [e2] X.env := by rfl) (hpl : (backTo pos (starEach [e2] X.env)).any (·.1) = false := by rfl) :
    PI X (.Tuple elts kk tpos) (.Call (.Name "zip" p) [e1, e2] [] pos) (iX2 X.K ta) := by
  refine ⟨fun pins s σ H R I h => ?_⟩
  refine Call_ (ld_blt I hg hm PyProof.Rows.boot_zip (PyProof.Rows.callWith_type1 (thn (ha.run pos pins s σ H _ I h) fun us s1 ⟨vs, H1, I1, r1, q1⟩ => ?_) hs hpl))
  obtain ⟨t1, t2, a1, a2, l1, l2, ex, q1, q2, q⟩ := q1
  subst ex
  obtain ⟨u1, u2, rfl, ru1, ru2⟩ := valsX2 r1
  obtain rfl : u1 = Value.ref a1 := ru1
  obtain rfl : u2 = Value.ref a2 := ru2
  obtain ⟨ss1, r1, p1, lt1⟩ := srcX I1 q1
  obtain ⟨o1, B1, b1⟩ := beginsX t1 a1 ss1.toArray
  obtain ⟨ss2, r2, p2, lt2⟩ := srcX I1 q2
  obtain ⟨o2, B2, b2⟩ := beginsX t2 a2 ss2.toArray
  refine zip_begins2 B1 B2 p1 p2 fun h' hz hTI hTO g1 g2 hsz hk => wpAny_pyIter_zip hz ?_
  have I2 : Inv X pins σ H1 { s1 with heap := h' } := I1.kept (t' := s1.toks) hk
  refine ⟨s1.heap.objs.size + 4, [s1.heap.objs.size + 4, s1.heap.objs.size + 2, s1.heap.objs.size + 3, s1.heap.objs.size, s1.heap.objs.size + 1], _, _, H1, rfl, I2, turn_x2 (sepX2 _ _ _ lt1 lt2) (farX _ _ 0 lt1) (farX _ _ 1 lt2), ⟨hz, hTI, ⟨_, _, hTO⟩, b1 _ _ g1, b2 _ _ g2⟩, fun c hcm => ?_, q⟩
  have hle : s1.heap.objs.size ≤ c := lo5 hcm
  exact I1.fpOk hle (I1.hok.fresh hle)
theorem walk_x2 {K : PySem.W.Frag} {t1 t2 : Bool} {a1 a2 : Addr} {l1 l2 : List V} {n : Nat} (hn : n = min l1.length l2.length) : Walk (Itx2 K t1 t2 a1 a2) n (fun H => SqX K t1 H a1 l1 ∧ SqX K t2 H a2 l2) (fun i H v H' => ∃ T x1 x2, v = .ref T ∧ H T = none ∧ H' = upd H T (.tup [x1, x2]) ∧ l1[i]? = some x1 ∧ l2[i]? = some x2) := by
  subst hn
  refine ⟨fun i _ hi q => ?_, fun _ q => ⟨l1, l2, q.1, q.2, ?_⟩, fun i H v H' _ q y => ?_⟩
  · have h1 : i < l1.length := by omega
    have h2 : i < l2.length := by omega
    exact ⟨l1, l2, l1[i], l2[i], q.1, q.2, by simp [h1], by simp [h2]⟩
  · omega
  · obtain ⟨T, x1, x2, e1, e2, e3, f1, f2⟩ := y
    exact ⟨T, x1, x2, e1, e2, e3, f1 _ q.1, f2 _ q.2⟩

/-! ### 3 -/
def Itx3 (K : PySem.W.Frag) (t1 t2 t3 : Bool) (a1 a2 a3 : Addr) : It :=
  ⟨fun i H => ∃ (l1 l2 l3 : List V) (x1 x2 x3 : V), SqX K t1 H a1 l1 ∧ SqX K t2 H a2 l2 ∧ SqX K t3 H a3 l3 ∧ l1[i]? = some x1 ∧ l2[i]? = some x2 ∧ l3[i]? = some x3,
    fun i H v H' => ∃ T x1 x2 x3, v = .ref T ∧ H T = none ∧ H' = upd H T (.tup [x1, x2, x3]) ∧ (∀ l, SqX K t1 H a1 l → l[i]? = some x1) ∧ (∀ l, SqX K t2 H a2 l → l[i]? = some x2) ∧ (∀ l, SqX K t3 H a3 l → l[i]? = some x3),
    fun i H => ∃ l1 l2 l3 : List V, SqX K t1 H a1 l1 ∧ SqX K t2 H a2 l2 ∧ SqX K t3 H a3 l3 ∧ i ≤ l1.length ∧ i ≤ l2.length ∧ i ≤ l3.length ∧ (i = l1.length ∨ i = l2.length ∨ i = l3.length)⟩
theorem turn_x3 {P : Program} {w : World} {K : PySem.W.Frag} {elts : List Expr} {kk : Nat} {tpos : Pos} {t1 t2 t3 : Bool} {a1 a2 a3 z TI TO i1 i2 i3 : Addr} (S : ZipSep3 z TI TO i1 i2 i3 [i1, a1] [i2, a2] [i3, a3]) (n1 : a1 ≠ i1) (n2 : a2 ≠ i2) (n3 : a3 ≠ i3) :
    Turn P w K (.Tuple elts kk tpos) (Itx3 K t1 t2 t3 a1 a2 a3) [z, TI, TO, i1, i2, i3] z (fun i h => IsZip h z TI TO .none ∧ IsTupOf3 h TI (.ref i1) (.ref i2) (.ref i3) ∧ (∃ y1 y2 y3, IsTupOf3 h TO y1 y2 y3) ∧ ItX t1 h i1 a1 i ∧ ItX t2 h i2 a2 i ∧ ItX t3 h i3 a3 i) where
  mem := by simp
  obj := fun i h st c hc => by
    obtain ⟨hz, hTI, ⟨y1, y2, y3, hTO⟩, h1, h2, h3⟩ := st
    have e' : c = z ∨ c = TI ∨ c = TO ∨ c = i1 ∨ c = i2 ∨ c = i3 := by simpa using hc
    rcases e' with q | q | q | q | q | q
    · rw [q]; exact ⟨_, hz, fun v q => nomatch q⟩
    · rw [q]; exact ⟨_, hTI, fun v q => nomatch q⟩
    · rw [q]; exact ⟨_, hTO, fun v q => nomatch q⟩
    · rw [q]; exact h1.obj
    · rw [q]; exact h2.obj
    · rw [q]; exact h3.obj
  keep := fun i h h' st k => by
    obtain ⟨hz, hTI, ⟨y1, y2, y3, hTO⟩, h1, h2, h3⟩ := st
    exact ⟨k z (by simp) _ hz, k TI (by simp) _ hTI, ⟨y1, y2, y3, k TO (by simp) _ hTO⟩, h1.over fun o q => k i1 (by simp) o q, h2.over fun o q => k i2 (by simp) o q, h3.over fun o q => k i3 (by simp) o q⟩
  item := by
    intro X hP hw hK hc i pins s σ H E I hf st hg
    subst hP hw hK
    obtain ⟨hz, hTI, ⟨y1, y2, y3, hTO⟩, h1, h2, h3⟩ := st
    obtain ⟨l1, l2, l3, x1, x2, x3, q1, q2, q3, g1, g2, g3⟩ := hg
    obtain ⟨s1, r1, p1, _⟩ := srcX I q1
    obtain ⟨u1, w1, v1⟩ := r1.get g1
    obtain ⟨s2, r2, p2, _⟩ := srcX I q2
    obtain ⟨u2, w2, v2⟩ := r2.get g2
    obtain ⟨s3, r3, p3, _⟩ := srcX I q3
    obtain ⟨u3, w3, v3⟩ := r3.get g3
    have hh : X.A.in1.handled = none := I.ok.hd hc
    have hzl : z < s.heap.objs.size := Heap.lt_size hz
    refine wpAny_pyNext_zipD3_item S (drawsX t1 hh i1 a1 n1 s1.toArray) (drawsX t2 hh i2 a2 n2 s2.toArray) (drawsX t3 hh i3 a3 n3 s3.toArray) hz hTI hTO ⟨h1, p1⟩ ⟨h2, p2⟩ ⟨h3, p3⟩ (by have := (List.getElem?_eq_some_iff.mp w1).1; simpa using this) (by have := (List.getElem?_eq_some_iff.mp w2).1; simpa using this) (by have := (List.getElem?_eq_some_iff.mp w3).1; simpa using this) fun z1 z2 z3 h' tk e1 e2 e3 z' TO' k1 k2 k3 hT hsz hk => ?_
    obtain rfl : z1 = u1 := by
      rw [List.getElem?_toArray] at e1
      exact Option.some.inj (e1.symm.trans w1)
    obtain rfl : z2 = u2 := by
      rw [List.getElem?_toArray] at e2
      exact Option.some.inj (e2.symm.trans w2)
    obtain rfl : z3 = u3 := by
      rw [List.getElem?_toArray] at e3
      exact Option.some.inj (e3.symm.trans w3)
    refine ⟨_, rfl, wpAny_letOwnedTupleGo_zip (s := { s with heap := h', toks := tk }) z' fun h'' z'' sb => ?_⟩
    have hT2 : h''.get? s.heap.objs.size = some { cls := .type "tuple", data := .seq #[z1, z2, z3] } := (sb.2 _ (Nat.ne_of_gt hzl)).trans hT
    have new : ObjOk X.prog X.w (upd H s.heap.objs.size (.tup [x1, x2, x3])) h'' s.heap.objs.size (.tup [x1, x2, x3]) :=
      ⟨by show 3 ≤ sizeLine; decide, [z1, z2, z3], .cons v1 (.cons v2 (.cons v3 .nil)), ⟨_, hT2, rfl, _, rfl⟩⟩
    have I1 : Inv X pins σ (upd H s.heap.objs.size (.tup [x1, x2, x3])) { s with heap := h'', toks := tk } :=
      I.turnedNew (t' := tk) (ch := [z, TI, TO, i1, i2, i3]) (fun c o hb q => (sb.2 c (fun q' => hb (by simp [q']))).trans (hk c o (fun q' => hb (by simp [q'])) (fun q' => hb (by simp [q'])) (fun q' => hb (by simp [q'])) (fun q' => hb (by simp [q'])) (fun q' => hb (by simp [q'])) q)) hf (Nat.le_refl _) new
    refine ⟨.ref s.heap.objs.size, _, I1, rfl, ⟨_, x1, x2, x3, rfl, I.hok.fresh (Nat.le_refl _), rfl, fun l hl => by rw [injX I hl q1]; exact g1, fun l hl => by rw [injX I hl q2]; exact g2, fun l hl => by rw [injX I hl q3]; exact g3⟩, ⟨z'', ?_, ⟨z1, z2, z3, ?_⟩, ?_, ?_, ?_⟩, fun c hcm => ?_⟩
    · exact (sb.2 _ S.TIz).trans (hk _ _ S.TIz S.TITO S.TIi1 S.TIi2 S.TIi3 hTI)
    · exact (sb.2 _ S.TOz).trans TO'
    · exact k1.1.over fun o q => (sb.2 _ (Ne.symm S.zi1)).trans q
    · exact k2.1.over fun o q => (sb.2 _ (Ne.symm S.zi2)).trans q
    · exact k3.1.over fun o q => (sb.2 _ (Ne.symm S.zi3)).trans q
    · have hlt : c < s.heap.objs.size := by
        have e' : c = z ∨ c = TI ∨ c = TO ∨ c = i1 ∨ c = i2 ∨ c = i3 := by simpa using hcm
        rcases e' with q | q | q | q | q | q
        · rw [q]; exact hzl
        · rw [q]; exact Heap.lt_size hTI
        · rw [q]; exact Heap.lt_size hTO
        · rw [q]; obtain ⟨_, e1, _⟩ := h1.obj; exact Heap.lt_size e1
        · rw [q]; obtain ⟨_, e1, _⟩ := h2.obj; exact Heap.lt_size e1
        · rw [q]; obtain ⟨_, e1, _⟩ := h3.obj; exact Heap.lt_size e1
      rw [upd_ne (Nat.ne_of_lt hlt)]
      exact (hf c hcm).1
  done := by
    intro X hP hw hK hc i pins s σ H E I hf st hg
    subst hP hw hK
    obtain ⟨hz, hTI, ⟨y1, y2, y3, hTO⟩, h1, h2, h3⟩ := st
    obtain ⟨l1, l2, l3, q1, q2, q3, b1, b2, b3, hend⟩ := hg
    obtain ⟨s1, r1, p1, _⟩ := srcX I q1
    have c1 := r1.length
    obtain ⟨s2, r2, p2, _⟩ := srcX I q2
    have c2 := r2.length
    obtain ⟨s3, r3, p3, _⟩ := srcX I q3
    have c3 := r3.length
    have hh : X.A.in1.handled = none := I.ok.hd hc
    refine wpAny_pyNext_zipD3_end S (drawsX t1 hh i1 a1 n1 s1.toArray) (drawsX t2 hh i2 a2 n2 s2.toArray) (drawsX t3 hh i3 a3 n3 s3.toArray) hz hTI hTO ⟨h1, p1⟩ ⟨h2, p2⟩ ⟨h3, p3⟩ (by simp only [List.size_toArray]; omega) (by simp only [List.size_toArray]; omega) (by simp only [List.size_toArray]; omega) ?_ fun h' tk hk => ⟨rfl, I.turnedL (t' := tk) (ch := [z, TI, TO, i1, i2, i3]) (fun c o hb q =>
      hk c o (fun q' => hb (by simp [q'])) (fun q' => hb (by simp [q'])) (fun q' => hb (by simp [q'])) (fun q' => hb (by simp [q'])) (fun q' => hb (by simp [q'])) q) hf⟩
    simp only [List.size_toArray]
    omega
  self := fun A i s Q E st h => wpAny_pyIter_zip st.1 h
def iX3 (K : PySem.W.Frag) (ta : TA) : TI := fun σ H R => ta σ H fun vs H1 => ∃ (t1 t2 t3 : Bool) (a1 a2 a3 : Addr) (l1 l2 l3 : List V), vs = [.ref a1, .ref a2, .ref a3] ∧ SqX K t1 H1 a1 l1 ∧ SqX K t2 H1 a2 l2 ∧ SqX K t3 H1 a3 l3 ∧ R (Itx3 K t1 t2 t3 a1 a2 a3) H1
theorem pi_x3 {X : Cx} {e1 e2 e3 : Expr} {ta : TA} {p pos tpos : Pos} {elts : List Expr} {kk : Nat} (hg : Gl X "zip") (hm : X.mg "zip" = none) (ha : PA X [e1, e2, e3] ta)
    (hs : starEach [e1, e2, e3] X.env = (false, eval e1 X.env) :: starEach [e2, e3] X.env := by rfl) (hpl : (backTo pos (starEach [e2, e3] X.env)).any (·.1) = false := by rfl) :
    PI X (.Tuple elts kk tpos) (.Call (.Name "zip" p) [e1, e2, e3] [] pos) (iX3 X.K ta) := by
  refine ⟨fun pins s σ H R I h => ?_⟩
  refine Call_ (ld_blt I hg hm PyProof.Rows.boot_zip (PyProof.Rows.callWith_type1 (thn (ha.run pos pins s σ H _ I h) fun us s1 ⟨vs, H1, I1, r1, q1⟩ => ?_) hs hpl))
  obtain ⟨t1, t2, t3, a1, a2, a3, l1, l2, l3, ex, q1, q2, q3, q⟩ := q1
  subst ex
  obtain ⟨u1, u2, u3, rfl, ru1, ru2, ru3⟩ := valsX3 r1
  obtain rfl : u1 = Value.ref a1 := ru1
  obtain rfl : u2 = Value.ref a2 := ru2
  obtain rfl : u3 = Value.ref a3 := ru3
  obtain ⟨ss1, r1, p1, lt1⟩ := srcX I1 q1
  obtain ⟨o1, B1, b1⟩ := beginsX t1 a1 ss1.toArray
  obtain ⟨ss2, r2, p2, lt2⟩ := srcX I1 q2
  obtain ⟨o2, B2, b2⟩ := beginsX t2 a2 ss2.toArray
  obtain ⟨ss3, r3, p3, lt3⟩ := srcX I1 q3
  obtain ⟨o3, B3, b3⟩ := beginsX t3 a3 ss3.toArray
  refine zip_begins3 B1 B2 B3 p1 p2 p3 fun h' hz hTI hTO g1 g2 g3 hsz hk => wpAny_pyIter_zip hz ?_
  have I2 : Inv X pins σ H1 { s1 with heap := h' } := I1.kept (t' := s1.toks) hk
  refine ⟨s1.heap.objs.size + 5, [s1.heap.objs.size + 5, s1.heap.objs.size + 3, s1.heap.objs.size + 4, s1.heap.objs.size, s1.heap.objs.size + 1, s1.heap.objs.size + 2], _, _, H1, rfl, I2, turn_x3 (sepX3 _ _ _ _ lt1 lt2 lt3) (farX _ _ 0 lt1) (farX _ _ 1 lt2) (farX _ _ 2 lt3), ⟨hz, hTI, ⟨_, _, _, hTO⟩, b1 _ _ g1, b2 _ _ g2, b3 _ _ g3⟩, fun c hcm => ?_, q⟩
  have hle : s1.heap.objs.size ≤ c := lo6 hcm
  exact I1.fpOk hle (I1.hok.fresh hle)
theorem walk_x3 {K : PySem.W.Frag} {t1 t2 t3 : Bool} {a1 a2 a3 : Addr} {l1 l2 l3 : List V} {n : Nat} (hn : n = min (min l1.length l2.length) l3.length) : Walk (Itx3 K t1 t2 t3 a1 a2 a3) n (fun H => SqX K t1 H a1 l1 ∧ SqX K t2 H a2 l2 ∧ SqX K t3 H a3 l3) (fun i H v H' => ∃ T x1 x2 x3, v = .ref T ∧ H T = none ∧ H' = upd H T (.tup [x1, x2, x3]) ∧ l1[i]? = some x1 ∧ l2[i]? = some x2 ∧ l3[i]? = some x3) := by
  subst hn
  refine ⟨fun i _ hi q => ?_, fun _ q => ⟨l1, l2, l3, q.1, q.2.1, q.2.2, ?_⟩, fun i H v H' _ q y => ?_⟩
  · have h1 : i < l1.length := by omega
    have h2 : i < l2.length := by omega
    have h3 : i < l3.length := by omega
    exact ⟨l1, l2, l3, l1[i], l2[i], l3[i], q.1, q.2.1, q.2.2, by simp [h1], by simp [h2], by simp [h3]⟩
  · omega
  · obtain ⟨T, x1, x2, x3, e1, e2, e3, f1, f2, f3⟩ := y
    exact ⟨T, x1, x2, x3, e1, e2, e3, f1 _ q.1, f2 _ q.2.1, f3 _ q.2.2⟩
theorem tup_in {X : Cx} {K : PySem.W.Frag} {es : List Expr} {k : Nat} {t : TGs} {n : Nat} {pos : Pos} (hK : X.K = K) (hc : X.calm = true) (h : PGs X es t) (k1 : (assignEach es X.env).length = n := by rfl) (k2 : (assignEach es X.env).findIdx? (·.1) = none := by rfl) : PG X (.Tuple es k pos) (gTup K n t) := by
  subst hK
  exact pg_tup hc h k1 k2
end Tw

/-! Steps from one number to another. -/
namespace Tw
open PySem PySem.Spec PyProof.Rows L2
/-- what steps_to tells of a start and a number -/
def stV (t p m s n : Int) : V := if n ∈ (rndW t p m s).1 then .int (((rndW t p m s).1.idxOf n : Nat) : Int) else .non
def pSteps (K : PySem.W.Frag) (CN : Addr) : V → V → V → Hp → VK → XK → Prop := fun a b c H Q E => ∃ (r : Addr) (t p m s n : Int), a = .ref r ∧ b = .int s ∧ c = .int n ∧ SqT K H r [.int t, .int p, .int m] ∧ Rule t p m ∧ m ≤ 1000000 ∧
  ((0 ≤ s ∧ s < m) → (0 ≤ n ∧ n < m) → ∀ H', Same H H' → Q (stV t p m s n) H') ∧ (¬ (0 ≤ s ∧ s < m) → Bad CN s H E) ∧ ((0 ≤ s ∧ s < m) → ¬ (0 ≤ n ∧ n < m) → Bad CN n H E)
def seenD (ws : List Int) : List (Key × V) := ws.map fun x => (Sum.inl x, V.bl true)
theorem seenD_none : ∀ {ws : List Int} {x : Int}, x ∉ ws → valV (seenD ws) (Sum.inl x) = none
  | [], _, _ => rfl
  | w :: ws, x, h => by
    show valV ((Sum.inl w, V.bl true) :: seenD ws) (Sum.inl x) = none
    rw [valV_neg (fun e => h (by rw [← Sum.inl.inj e]; exact List.mem_cons_self))]
    exact seenD_none (fun hm => h (List.mem_cons_of_mem _ hm))
theorem seenD_some : ∀ {ws : List Int} {x : Int}, x ∈ ws → valV (seenD ws) (Sum.inl x) = some (.bl true)
  | w :: ws, x, h => by
    show valV ((Sum.inl w, V.bl true) :: seenD ws) (Sum.inl x) = _
    by_cases e : w = x
    · subst e
      rw [valV_pos rfl]
    · rw [valV_neg (fun z => e (Sum.inl.inj z)), seenD_some ((List.mem_cons.mp h).resolve_left (fun z => e z.symm))]
theorem seenD_snoc (ws : List Int) (x : Int) : seenD (ws ++ [x]) = seenD ws ++ [(Sum.inl x, V.bl true)] := List.map_append
def pRowL (K : PySem.W.Frag) : V → V → Hp → VK → XK → Prop := fun a b H Q _ => ∃ (r : Addr) (t p m s : Int), a = .ref r ∧ b = .int s ∧ SqT K H r [.int t, .int p, .int m] ∧ Rule t p m ∧ m ≤ 1000000 ∧ 0 ≤ s ∧ s < m ∧
  ∀ H' q, Same H H' → H q = none → H' q = some (.lst ((rndW t p m s).1.map V.int)) → Q (.ref q) H'
def pTold (K : PySem.W.Frag) : V → V → V → Hp → VK → XK → Prop := fun a b c H Q _ => ∃ (r : Addr) (t p m s n : Int), a = .ref r ∧ b = .int s ∧ c = .int n ∧ SqT K H r [.int t, .int p, .int m] ∧ Rule t p m ∧ m ≤ 1000000 ∧
  ((0 ≤ s ∧ s < m) → (0 ≤ n ∧ n < m) → ∀ H' q, Same H H' → H q = none → H' q = some (.lst [stV t p m s n]) → Q (.ref q) H') ∧
  (¬ (0 ≤ s ∧ s < m) → ∀ H' q, Same H H' → H q = none → H' q = some (.tup [.str "number", .int s]) → Q (.ref q) H') ∧
  ((0 ≤ s ∧ s < m) → ¬ (0 ≤ n ∧ n < m) → ∀ H' q, Same H H' → H q = none → H' q = some (.tup [.str "number", .int n]) → Q (.ref q) H')
theorem eqV_int (a b : Int) : eqV (.int a) (.int b) = (a == b) := rfl
theorem flat_ints (ns : List Int) : (ns.map V.int).all flatV = true := by
  rw [List.all_eq_true]
  intro x hx
  obtain ⟨y, _, rfl⟩ := List.mem_map.mp hx
  rfl
theorem inV_ints (n : Int) (ns : List Int) : inV (.int n) (ns.map V.int) = decide (n ∈ ns) := by
  unfold inV
  rw [Bool.eq_iff_iff, List.any_eq_true, decide_eq_true_eq]
  constructor
  · rintro ⟨x, hx, e⟩
    obtain ⟨y, hy, rfl⟩ := List.mem_map.mp hx
    have : y = n := by simpa [eqV_int] using e
    exact this ▸ hy
  · intro h
    exact ⟨.int n, List.mem_map.mpr ⟨n, h, rfl⟩, by simp [eqV_int]⟩
/-- the first place of a number in a list of ints, as index asks it -/
theorem idx_ints {n : Int} {ns : List Int} (h : n ∈ ns) : (ns.map V.int)[ns.idxOf n]? = some (.int n) ∧ ∀ (j : Nat) (z : V), j < ns.idxOf n → (ns.map V.int)[j]? = some z → eqV z (.int n) = false := by
  have hl := List.idxOf_lt_length_of_mem h
  constructor
  · rw [List.getElem?_map, List.getElem?_eq_getElem hl, List.getElem_idxOf hl]
    rfl
  · intro j z hj hz
    rw [List.getElem?_map] at hz
    have jl : j < ns.length := by omega
    rw [List.getElem?_eq_getElem jl] at hz
    obtain rfl : V.int ns[j] = z := Option.some.inj hz
    rw [eqV_int]
    refine beq_eq_false_iff_ne.mpr fun e => ?_
    have := List.not_of_lt_findIdx (p := fun x => x == n) (xs := ns) (i := j) hj
    simp [e] at this
theorem idx_app {n : Int} {ns : List Int} (h : n ∈ ns) : (ns ++ [n]).idxOf n = ns.idxOf n := by
  rw [List.idxOf_append, if_pos h]
end Tw

/-! Rows, and rests by taking away. -/
namespace Tw
open PySem PySem.Spec PyProof.Rows L2
def itr (f : Int → Int) : Nat → Int → Int
  | 0, x => x
  | n + 1, x => f (itr f n x)
def orb (f : Int → Int) (n : Nat) (x : Int) : List Int := (List.range n).map fun i => itr f i x
theorem orb_succ (f : Int → Int) (n : Nat) (x : Int) : orb f (n + 1) x = orb f n x ++ [itr f n x] := by
  unfold orb
  rw [List.range_succ, List.map_append]
  rfl
theorem orb_len (f : Int → Int) (n : Nat) (x : Int) : (orb f n x).length = n := by
  unfold orb
  rw [List.length_map, List.length_range]
theorem itr_rng {t p m s : Int} (m0 : 0 < m) (h : 0 ≤ s ∧ s < m) : ∀ n, 0 ≤ itr (stp t p m) n s ∧ itr (stp t p m) n s < m
  | 0 => h
  | n + 1 => stp_rng m0 _
def pRowFrom (K : PySem.W.Frag) (CN : Addr) : V → V → V → Hp → VK → XK → Prop := fun a b c H Q E => ∃ (r : Addr) (t p m s n : Int), a = .ref r ∧ b = .int s ∧ c = .int n ∧ SqT K H r [.int t, .int p, .int m] ∧ Rule t p m ∧ 0 ≤ n ∧ n ≤ 100000 ∧
  (0 ≤ s → s < m → ∀ H' q, Same H H' → H q = none → H' q = some (.tup ((orb (stp t p m) n.toNat s).map V.int)) → Q (.ref q) H') ∧ (¬ (0 ≤ s ∧ s < m) → Bad CN s H E)
def pRowLaw (K : PySem.W.Frag) : V → V → V → Hp → VK → XK → Prop := fun a b c H Q _ => ∃ (r : Addr) (t p m s n : Int), a = .ref r ∧ b = .int s ∧ c = .int n ∧ SqT K H r [.int t, .int p, .int m] ∧ Rule t p m ∧ 0 ≤ n ∧ n ≤ 100000 ∧ 0 ≤ s ∧ s < m ∧
  ∀ H' q, Same H H' → H q = none → H' q = some (.tup ((orb (stp t p m) n.toNat s).map V.int)) → Q (.ref q) H'
def pRest : V → V → Hp → VK → XK → Prop := fun a b H Q _ => ∃ x m : Int, a = .int x ∧ b = .int m ∧ 0 ≤ x ∧ x < 10000000000000000000000000 ∧ 1 ≤ m ∧ m ≤ 1000000000000 ∧ ∀ H', Same H H' → Q (.int (x % m)) H'
def pWhole2 : V → V → Hp → VK → XK → Prop := fun a b H Q _ => ∃ x : Int, a = .int x ∧ b = .int x ∧ Q (.bl true) H
def pRef2 (K : PySem.W.Frag) : V → V → V → Hp → VK → XK → Prop := fun a b c H Q _ => ∃ (r : Addr) (t p m n k : Int), a = .ref r ∧ b = .int n ∧ c = .int k ∧ SqT K H r [.int t, .int p, .int m] ∧ Rule t p m ∧ 0 ≤ k ∧ k ≤ 100000 ∧ (n < 0 ∨ m ≤ n) ∧ ∀ H', Same H H' → Q (.bl true) H'
theorem lay_ints : ∀ ns : List Int, PyData.canLayAll0 (ns.map PyData.int) = true ∧ PyData.depthAll (ns.map PyData.int) = 0
  | [] => ⟨rfl, rfl⟩
  | n :: ns => by
    obtain ⟨h1, h2⟩ := lay_ints ns
    constructor
    · show (PyData.canLay0 (.int n) && PyData.canLayAll0 (ns.map PyData.int)) = true
      rw [h1]
      rfl
    · show max (PyData.depth (.int n)) (PyData.depthAll (ns.map PyData.int)) = 0
      rw [h2]
      rfl
theorem shp_ints (ns : List Int) : SeqAt.shaped (.tuple (ns.map PyData.int)) = true := by
  obtain ⟨h1, h2⟩ := lay_ints ns
  show (PyData.canLayAll0 (ns.map PyData.int) && decide (PyData.depthAll (ns.map PyData.int) + 1 ≤ 64)) = true
  rw [h1, h2]
  rfl
theorem shp_lints (ns : List Int) : SeqAt.shaped (.list (ns.map PyData.int)) = true := by
  obtain ⟨h1, h2⟩ := lay_ints ns
  show (PyData.canLayAll0 (ns.map PyData.int) && decide (PyData.depthAll (ns.map PyData.int) + 1 ≤ 64)) = true
  rw [h1, h2]
  rfl
theorem two_pos (k : Nat) : (1 : Int) ≤ 2 ^ k := Int.pow_pos (by decide)
theorem two_small {k : Nat} {b x : Int} (hb : 1 ≤ b) (h : 2 ^ k * b ≤ x) (hx : x < 10000000000000000000000000) : k < 84 := by
  refine Nat.lt_of_not_le fun hk => ?_
  obtain ⟨j, rfl⟩ : ∃ j, k = 84 + j := ⟨k - 84, by omega⟩
  have e : (2 : Int) ^ (84 + j) = 2 ^ 84 * 2 ^ j := Int.pow_add ..
  have h1 := two_pos j
  have h2 : (2 : Int) ^ 84 * 1 ≤ 2 ^ 84 * 2 ^ j := Int.mul_le_mul_of_nonneg_left h1 (by decide)
  have h3 : (2 : Int) ^ (84 + j) * 1 ≤ 2 ^ (84 + j) * b := Int.mul_le_mul_of_nonneg_left hb (by have := two_pos (84 + j); omega)
  have h4 : (2 : Int) ^ 84 = 19342813113834066795298816 := by decide
  omega
def dbl (b : Int) (k : Nat) : List Int := (List.range (k + 1)).map fun i => 2 ^ i * b
theorem dbl_succ (b : Int) (k : Nat) : dbl b (k + 1) = dbl b k ++ [2 * (2 ^ k * b)] := by
  unfold dbl
  rw [List.range_succ (n := k + 1), List.map_append]
  show _ ++ [2 ^ (k + 1) * b] = _
  rw [Int.pow_succ, Int.mul_comm (2 ^ k) 2, Int.mul_assoc]
theorem dbl_last (b : Int) : ∀ k, ∃ l, dbl b k = l ++ [2 ^ k * b]
  | 0 => ⟨[], rfl⟩
  | k + 1 => ⟨dbl b k, by rw [dbl_succ, Int.pow_succ, Int.mul_comm (2 ^ k) 2, Int.mul_assoc]⟩
theorem dbl_len (b : Int) (k : Nat) : (dbl b k).length = k + 1 := by
  unfold dbl
  rw [List.length_map, List.length_range]
theorem dbl_rev {b : Int} {k i : Nat} (h : i ≤ k) : (dbl b k).reverse[i]? = some (2 ^ (k - i) * b) := by
  rw [List.getElem?_reverse (by rw [dbl_len]; omega), dbl_len]
  unfold dbl
  rw [List.getElem?_map, List.getElem?_range (by omega)]
  show some (2 ^ (k + 1 - 1 - i) * b) = _
  rw [show k + 1 - 1 - i = k - i by omega]
theorem two_half {b : Int} {k i : Nat} (h : i ≤ k) : (2 : Int) ^ (k + 1 - i) * b = 2 * (2 ^ (k - i) * b) := by
  rw [show k + 1 - i = (k - i) + 1 by omega, Int.pow_succ, Int.mul_comm (2 ^ (k - i)) 2, Int.mul_assoc]
end Tw

/-! Rules of my own: set(list of ints), sorted(set) and sorted(d.items()) of any size. -/
namespace Tw
open PySem PySem.Spec PyProof.Rows L2
/-- a set as it is made -/
abbrev noneYet (w : World) : Obj := { cls := .type "set", dict := none, data := .set #[] 0 (.fresh 0 0 (!w.params.followText "set-order")) }
section
variable {P : Program} {w : World} {A : Around} {E : Value → Shared → Prop} {s : Shared}
theorem set_made {q : Addr} {xs : Array Value} (ks : List Int) {Q : Value → Shared → Prop} (nh : A.handled = none) (hq : s.heap.IsList q xs) (hx : IntsAre xs.toList ks) (few : ks.length + 1 < scanBound)
    (go : ∀ (g : Heap) (k c : Nat), SetR w g s.heap.objs.size (fun j => decide (j ∈ ks)) c → (∀ b o, s.heap.get? b = some o → g.get? b = some o) → Q (.ref s.heap.objs.size) { s with heap := g, toks := k }) :
    wpAny (model P w) A (call (.type "set") [.ref q]) Q E s := by
  have sz : xs.size = ks.length := (Array.length_toList (xs := xs)).symm.trans (IntsAre.length hx)
  have at_ : ∀ (i : Nat) (v : Value), xs[i]? = some v → ∃ k t, ks[i]? = some k ∧ v = .int k t := by
    intro i v hv
    have il : i < ks.length := by
      rw [← sz]
      exact (Array.getElem?_eq_some_iff.mp hv).1
    obtain ⟨t, e⟩ := PyProof.Rows.IntsAre.int_at hx i v ((Array.getElem?_toList).trans hv)
    refine ⟨ks[i], t, List.getElem?_eq_getElem il, e.trans ?_⟩
    rw [List.getD_eq_getElem?_getD, List.getElem?_eq_getElem il]
    rfl
  have new0 : (s.heap.push (noneYet w)).get? s.heap.objs.size = some (noneYet w) := Heap.get?_push_size _ rfl
  obtain ⟨_, _, m1⟩ := F.called_set.mro
  have m2 := F.called_set.made
  have m3 := F.called_set.sub
  have m4 := F.called_set.notType
  have m5 := F.called_set.canCreate
  have m6 := F.typeCall_set_1 (.ref q)
  refine wpAny_call (codeAny_of_tree ?_)
  show wpAny _ _ (callAny (.type "set") _) _ _ _
  refine wpAny_pure ⟨Code.quiet_builtin _ (by decide +kernel), codeAny_builtin F.entry_type_call ?_⟩
  rw [Around.under_plain (weight_type_call_type "set" [.ref q] []) rfl]
  repeat (any_goals (first | assumption | wp_step))
  refine codeAny_mono (code_set_led1 (.ref q) (E := E) (Q₁ := fun o s1 => o = .ref s.heap.objs.size ∧ s1 = { s with heap := s.heap.push (noneYet w) }) ⟨rfl, rfl⟩) fun r s1 h1 => ?_
  cases r with
  | error e => exact h1
  | ok fl =>
    cases fl with
    | ret o =>
      obtain ⟨rfl, rfl⟩ := h1
      have ty : Shared.TypeIs { s with heap := s.heap.push (noneYet w) } (.ref s.heap.objs.size) "set" := ⟨_, new0, rfl⟩
      have n1 := F.called_set.init.lookup
      have n2 := F.called_set.init.bind (.ref s.heap.objs.size)
      repeat (any_goals (first | assumption | wp_step))
      refine codeAny_mono (codeAny_call_builtin (R := wants (fun v s2 => v = .none ∧ ∃ g k c, s2 = { s with heap := g, toks := k } ∧ SetR w g s.heap.objs.size (fun j => decide (j ∈ ks)) c ∧ (∀ b o, s.heap.get? b = some o → g.get? b = some o)) E)
        F.called_set.init.plain F.entry_set_init (check_set_init_1 ty ?_)) fun r2 s2 h2 => ?_
      · obtain ⟨⟨oc, od, oa, os⟩, gq, cq, nq, dq⟩ := hq
        simp only at cq dq
        subst cq dq
        have gq1 : (s.heap.push (noneYet w)).get? q = some { cls := .type "list", dict := od, data := .seq xs nq, slots := os } := Heap.get?_push_of_some _ gq
        have u1 := F.sub_list_set
        have u2 := F.sub_list_frozenset
        have u3 : (Value.type "list" == Value.type "dict") = false := by decide
        have lq : (s.heap.push (noneYet w)).IsList q xs := ⟨_, gq1, rfl, nq, rfl⟩
        have below : q < s.heap.objs.size := Heap.lt_size gq
        have sz1 : (s.heap.push (noneYet w)).objs.size = s.heap.objs.size + 1 := Heap.size_push ..
        have nh3 : A.in1.in1.in1.handled = none := by simp [nh]
        unfold Builtin.«set.__init__» noKeywords Builtin.Frozenset.updateFrom
        generalize hIt : pyIter = It
        wp_walk
        subst hIt
        refine wpAny_pyIter_list lq ?_
        refine wpAny_bind (wpAny_runValue ?_)
        have ne1 : q ≠ (s.heap.push (noneYet w)).objs.size := by rw [sz1]; exact Nat.ne_of_lt (Nat.lt_succ_of_lt below)
        have ne2 : s.heap.objs.size ∉ [(s.heap.push (noneYet w)).objs.size, q] := by
          rw [sz1]
          intro z
          rcases List.mem_cons.mp z with z | z
          · omega
          · exact absurd (List.mem_singleton.mp z).symm (Nat.ne_of_lt below)
        refine set_update_ints ((Walks.list nh3 _ q ne1 xs).toS) s.heap.objs.size ne2 ks sz few at_ xs.size 0 _ (by omega) (Nat.zero_le _) ⟨⟨_, Heap.get?_push_size _ rfl, rfl, rfl⟩, lq.push _⟩ ⟨0, Nat.le_refl 0, setR_new_at (Heap.get?_push_of_some _ new0)⟩ ?_
        intro s3 c mv _ R3
        obtain ⟨g, gn, dr, k, ox⟩ := s3
        have e1 : gn = s.gens := mv.gens
        have e2 : dr = s.drawn := mv.drawn
        have e3 : ox = s.os := mv.os
        subst e1 e2 e3
        show wpAny _ _ _ _ _ _
        refine wpAny_pure ?_
        show wpAny _ _ (ret Value.none) _ _ _
        refine wpAny_pure ⟨rfl, g, k, c, rfl, R3, fun b o e => ?_⟩
        have lb := Heap.lt_size e
        refine mv.heap b o (fun z => ?_) (Heap.get?_push_of_some _ (Heap.get?_push_of_some _ e))
        rcases List.mem_cons.mp z with z | z
        · exact absurd z (Nat.ne_of_lt lb)
        · rw [List.mem_singleton, sz1] at z
          exact absurd z (Nat.ne_of_lt (Nat.lt_succ_of_lt lb))
      · cases r2 with
        | error e => exact h2
        | ok fl2 =>
          cases fl2 with
          | ret v =>
            obtain ⟨rfl, g, k, c, rfl, R3, kp⟩ := h2
            repeat (any_goals (first | assumption | wp_step))
            exact go _ _ _ R3 kp
          | _ => exact h2.elim
    | _ => exact h1.elim
end
/-- set(xs), ints -/
def rSetI (K : PySem.W.Frag) (w : World) : List V → Hp → VK → Prop := fun vs H Q => ∃ (l : Addr) (ns : List Int), vs = [.ref l] ∧ SqL K H l (ns.map V.int) ∧ ns.length ≤ 4000 ∧ ∀ p c, H p = none → Q (.ref p) (upd H p (SetO w p (fun j => decide (j ∈ ns)) c))
theorem cr_setI {X : Cx} (hc : X.calm = true) : CallR X (.type "set") (rSetI X.K X.w) := by
  intro pins s σ H vs us Q I r h
  obtain ⟨l, ns, rfl, hs, few, q⟩ := h
  obtain ⟨its, rv, hl, hz⟩ := I.list hs
  rw [Vals.ref1 r]
  refine set_made ns (I.ok.hd hc) hl.isList (by simpa using ints_of_vals rv) (by unfold scanBound; omega) fun g k c R kp => ?_
  exact ⟨.ref _, upd H s.heap.objs.size (SetO X.w s.heap.objs.size (fun j => decide (j ∈ ns)) c), I.laid (t' := k) kp (Nat.le_refl _) (setO_new R), rfl, q _ c (I.hok.fresh (Nat.le_refl _))⟩
/-- sorted(a set of ints) -/
def rSrtSet (w : World) : List V → Hp → VK → Prop := fun vs H Q => ∃ (a : Addr) (S : Int → Bool) (n : Nat), vs = [V.ref a] ∧ H a = some (SetO w a S n) ∧
  ∀ (ns : List Int) (p : Addr), ns.Pairwise (· < ·) → (∀ k : Int, k ∈ ns ↔ S k = true) → ns.length = n → H p = none → Q (.ref p) (upd H p (.lst (ns.map V.int)))
theorem rising {ns : List Int} (h : ns.Pairwise (· ≤ ·)) (nd : ns.Nodup) : ns.Pairwise (· < ·) := by
  rw [List.nodup_iff_pairwise_ne] at nd
  exact (h.and nd).imp fun {a b} z => by have := z.1; have := z.2; omega
theorem cr_srtSet {X : Cx} (hc : X.calm = true) : CallR X (.builtin "sorted") (rSrtSet X.w) := by
  intro pins s σ H vs us Q I r h
  obtain ⟨a, S, n, rfl, ha, q⟩ := h
  obtain ⟨o, es, ep, t, ho, hex, hd, g, nd, hm, hb, hf, hn, hr, hl⟩ := setO_get I ha
  rw [Vals.ref1 r]
  have nlt : n < 4096 := by rw [← hn]; exact hb
  refine Calls.call_function_entry kind_sorted plain_sorted entry_sorted (args_sorted1 _) ?_
  unfold Builtin.«sorted»
  refine wpAny_bind (m := checkCount "sorted" 1 1 _) (wpAny_pure ?_)
  refine wpAny_bind (collect_set (A := X.A.in1) (I.ok.hd hc) ⟨o, ho, hex.1, hd⟩ hf hb hr hl fun s1 us k1 z1 g1 o1 pm => ?_)
  have ul : us.length = n := by rw [pm.length_eq, List.length_map, Array.length_toList]; exact hn
  have ui : ∀ v ∈ us, ∃ i t, v = Value.int i t := fun v hv => by
    obtain ⟨e, he, rfl⟩ := List.mem_map.mp (pm.mem_iff.mp hv)
    obtain ⟨k, tk, h1, _⟩ := g e he
    exact ⟨k, tk, h1⟩
  have hI := SrtO.ints_iv ui
  have pk : (us.map SrtO.iv).Perm (es.toList.map keyOf) := by
    have z := pm.map SrtO.iv
    rw [List.map_map] at z
    refine z.trans (List.Perm.of_eq (List.map_congr_left fun e he => ?_))
    obtain ⟨k, tk, h1, _⟩ := g e he
    show SrtO.iv e.2 = keyOf e
    unfold keyOf
    rw [h1]
    rfl
  refine wpAny_bind (wpAny_newList ?_ (by rw [ul, sizeLine_eq]; omega))
  have top : (s1.heap.push (seqObj "list" us.toArray 0)).get? s1.heap.objs.size = some (seqObj "list" us.toArray 0) := Heap.get?_push_size _ rfl
  refine wpAny_bind (wpAny_holding (wpAny_call_entry slot_list_sort ⟨_, top, rfl⟩ entry_list_sort (SrtO.list_sort_ord SrtO.swo_int top (by rw [ul, sizeLine_eq]; omega) (fun l2 => SrtO.ints_sortable hI l2) fun out h1 h2 => ⟨_, rfl, ?_⟩) (args_list_sort _)))
  obtain ⟨k2, k3, k4⟩ := SrtO.ints_out hI h1 h2
  obtain ⟨c, hcc⟩ := sortedHeap_at (vs := us) (out := out.toArray) top
  have pn := k3.trans pk
  have nn : H s1.heap.objs.size = none := I.hok.fresh z1
  refine wpAny_pure ⟨_, rfl, .ref s1.heap.objs.size, upd H s1.heap.objs.size (.lst ((out.map SrtO.iv).map V.int)), ?_, rfl, q _ _ (rising k4 (pn.nodup_iff.mpr nd)) (fun k => by rw [pn.mem_iff, hm k]) (by rw [pn.length_eq, List.length_map, Array.length_toList]; exact hn) nn⟩
  have kp : ∀ b u, s.heap.get? b = some u → (sortedHeap (s1.heap.push (seqObj "list" us.toArray 0)) s1.heap.objs.size us out.toArray).get? b = some u := fun b u e => by
    have e1 := k1 b u e
    have lb := Heap.lt_size e1
    rw [sortedHeap_old (Nat.ne_of_lt lb) (by rw [size_push']; exact Nat.lt_succ_of_lt lb)]
    exact Heap.get?_push_of_some _ e1
  have J := I.call' (s' := { s1 with heap := sortedHeap (s1.heap.push (seqObj "list" us.toArray 0)) s1.heap.objs.size us out.toArray }) (ch := []) (H' := upd H s1.heap.objs.size (.lst ((out.map SrtO.iv).map V.int))) o1 (Un.laid kp z1 nn) (I.hok.laid kp z1 ⟨by
    rw [List.length_map, pn.length_eq, List.length_map, Array.length_toList, hn, sizeLine_eq]
    omega, out, c, vals_of_ints k2, hcc⟩) (by show AllBare s1.gens; rw [g1]; exact I.bare) (fun _ z => nomatch z)
  exact J
end Tw

/-! sorted(d.items()), ints to ints, of any size. -/
namespace Tw
open PySem PySem.Spec PyProof.Rows L2 L2.DX
def dInts (zs : List (Int × Int)) : List (Key × V) := zs.map fun z => (Sum.inl z.1, V.int z.2)
/-- d.items() -/
def rItemsK : V → List V → Hp → VK → Prop := fun x xs H Q => ∃ (a : Addr) (kvs : List (Key × V)), x = .ref a ∧ xs = [] ∧ H a = some (.dK kvs) ∧ ∀ p, H p = none → Q (.ref p) (upd H p (itemsO p a))
theorem mt_itemsK {X : Cx} : MtR X "dict.items" rItemsK := by
  intro pins s σ H x xs v us Q I rx rxs h
  obtain ⟨a, kvs, rfl, rfl, ha, q⟩ := h
  cases rx
  cases rxs
  obtain ⟨z, hd, ws, kv, o, es, ep, ho, hx, hdat, _⟩ := I.hok a _ ha
  refine DT.callItems (es := es) (ep := ep) hd ⟨o, ho, hx, hdat⟩ ?_
  exact ⟨.ref s.heap.objs.size, _, I.laid (t' := s.toks) (fun b u e => Heap.get?_push_of_some _ e) (Nat.le_refl _) (itemsO_ok (Heap.get?_push_size _ rfl)), rfl, q _ (I.hok.fresh (Nat.le_refl _))⟩
theorem ent_ix {P : Program} {w : World} : ∀ {es : List DictEntry} {vs : List (Key × Value)} {zs : List (Int × Int)}, Pairs (mixKind P w) es vs → KV (dInts zs) vs → ∀ (j : Nat) (e : DictEntry), es[j]? = some e → ∃ z t u, zs[j]? = some z ∧ e.key = .int z.1 t ∧ e.val = .int z.2 u
  | [], _, _, _, _, j, e, h => by simp at h
  | e0 :: es, _, zs, .cons h1 h2 h3, kv, j, e, h => by
    cases zs with
    | nil => cases kv
    | cons z zs =>
      cases kv with
      | cons a b =>
        cases j with
        | zero =>
          obtain rfl : e0 = e := by simpa using h
          obtain ⟨a1, u, a2⟩ := a
          have h1' : keyIs (Sum.inl z.1) e0.key = true := by rw [show (Sum.inl z.1 : Key) = _ from a1]; exact h1
          rcases keyIs_shape h1' with ⟨i, t, e1, e2⟩ | ⟨i, t, e1, e2⟩
          · cases e1
            exact ⟨z, t, u, rfl, e2, h2.trans a2⟩
          · cases e1
        | succ j => exact ent_ix h3 b j e (by simpa using h)
def rSrtIt : List V → Hp → VK → Prop := fun vs H Q => ∃ (p a : Addr) (zs : List (Int × Int)), vs = [.ref p] ∧ H p = some (itemsO p a) ∧ H a = some (.dK (dInts zs)) ∧
  ∀ (H' : Hp) (l : Addr) (ps : List (Addr × (Int × Int))), Same H H' → H l = none → (ps.map (·.2)).Perm zs → (ps.map (·.2)).Pairwise (fun y z => SrtO.lexB z y = false) → H' l = some (.lst (ps.map fun z => V.ref z.1)) → (∀ z ∈ ps, H' z.1 = some (.tup [.int z.2.1, .int z.2.2])) → Q (.ref l) H'
open Classical in
theorem cr_srtItems {X : Cx} (hc : X.calm = true) : CallR X (.builtin "sorted") rSrtIt := by
  intro pins s σ H xs us Q I r h
  obtain ⟨p, a, zs, rfl, hp, ha, q⟩ := h
  rw [Vals.ref1 r]
  have view : s.heap.IsItemsView p a := (I.hok p _ hp).1
  obtain ⟨z, hd, ws, kv, o, es, ep, ho, hx, hdat, _, prs, _⟩ := I.hok a _ ha
  have lz : (dInts zs).length = zs.length := List.length_map ..
  have l1 : zs.length = ws.length := lz.symm.trans (Paired.length kv)
  have l2 : es.size = ws.length := (Array.length_toList (xs := es)).symm.trans prs.length
  rw [lz] at z
  refine DT.sortedI (es := es) (ep := ep) (I.ok.hd hc) view ⟨o, ho, hx, hdat⟩ (by omega) fun g tk as keep more la made => ?_
  have lak : as.length = zs.length := by omega
  have nd : as.Nodup := made.rise.imp fun h => Nat.ne_of_lt h
  -- the pair at each of as
  have pr : ∀ (j : Nat) (b : Addr), as[j]? = some b → ∃ z t u, zs[j]? = some z ∧ g.get? b = some { cls := .type "tuple", data := .seq #[.int z.1 t, .int z.2 u] } := by
    intro j b hj
    obtain ⟨e, he, hg⟩ := made.pairs j b hj
    obtain ⟨z, t, u, hz, e1, e2⟩ := ent_ix prs kv j e (by rw [Array.getElem?_toList]; exact he)
    exact ⟨z, t, u, hz, by rw [hg, e1, e2]⟩
  have one : ∀ b, b ∈ as → ∃ z : Int × Int, Srt.IsPair g (.ref b) z.1 z.2 := by
    intro b hb
    obtain ⟨j, hj⟩ := List.mem_iff_getElem?.mp hb
    obtain ⟨z, t, u, _, hg⟩ := pr j b hj
    exact ⟨z, b, _, t, u, 0, rfl, hg, rfl, rfl⟩
  obtain ⟨k, hk⟩ : ∃ k : Value → Int × Int, ∀ b, b ∈ as → Srt.IsPair g (.ref b) (k (.ref b)).1 (k (.ref b)).2 := by
    refine ⟨fun v => if hv : ∃ z : Int × Int, Srt.IsPair g v z.1 z.2 then hv.choose else (0, 0), fun b hb => ?_⟩
    have hv := one b hb
    show Srt.IsPair g (.ref b) (dite _ _ _ : Int × Int).1 (dite _ _ _ : Int × Int).2
    rw [dif_pos hv]
    exact hv.choose_spec
  have kz : ∀ (j : Nat) (b : Addr), as[j]? = some b → zs[j]? = some (k (.ref b)) := by
    intro j b hj
    obtain ⟨z, t, u, hz, hg⟩ := pr j b hj
    obtain ⟨b', o', t', u', n', e1, e2, e3, e4⟩ := hk b (List.mem_of_getElem? hj)
    cases e1
    rw [hg] at e2
    cases e2
    simp only at e4
    have e5 : k (.ref b) = z := by
      injection e4 with e4 _
      have e6 := congrArg Array.toList e4
      simp at e6
      exact Prod.ext e6.1.1.symm e6.2.1.symm
    rw [e5]
    exact hz
  have mz : as.map (fun b => k (.ref b)) = zs := by
    refine List.ext_getElem? fun j => ?_
    rw [List.getElem?_map]
    cases hj : as[j]? with
    | none =>
      rw [List.getElem?_eq_none_iff] at hj
      rw [List.getElem?_eq_none_iff.mpr (by omega)]
      rfl
    | some b => rw [kz j b hj]; rfl
  -- the sort
  have top : (g.push { cls := .type "list", data := .seq (as.map Value.ref).toArray }).get? g.objs.size = some (seqObj "list" (as.map Value.ref).toArray 0) := Heap.get?_push_size _ rfl
  have up : ∀ b o, g.get? b = some o → (g.push { cls := .type "list", data := .seq (as.map Value.ref).toArray }).get? b = some o := fun b o e => Heap.get?_push_of_some _ e
  have off : ∀ b o, g.get? b = some o → b ≠ g.objs.size := fun b o e => Nat.ne_of_lt (Heap.lt_size e)
  generalize hg2 : g.push { cls := .type "list", data := .seq (as.map Value.ref).toArray } = g2 at top up ⊢
  have isr : ∀ v ∈ as.map Value.ref, ∃ b, b ∈ as ∧ v = .ref b := fun v hv => by
    obtain ⟨b, hb, rfl⟩ := List.mem_map.mp hv
    exact ⟨b, hb, rfl⟩
  refine wpAny_call_entry slot_list_sort ⟨_, top, rfl⟩ entry_list_sort
    (SrtO.list_sort_ord (s := { s with heap := g2, toks := tk }) (SrtO.swo_lex k) top (by rw [List.length_map, lak]; exact z) (fun h2 => SrtO.pairs_sortableO (s := { s with heap := g2, toks := tk }) (by omega) (fun v hv => ?_) fun o e c => ?_) fun out o1 o2 => ⟨.none, rfl, ?_⟩) (args_list_sort _)
  · obtain ⟨b, hb, rfl⟩ := isr v hv
    exact (hk b hb).keeps fun c o e _ => up c o e
  · rw [show g2.get? g.objs.size = _ from top] at e
    cases e
    exact absurd (Value.type.inj c) (by decide)
  · show EP X pins σ Q (.ref g.objs.size) { s with heap := sortedHeap g2 g.objs.size (as.map Value.ref) out.toArray, toks := tk }
    have h3 : ∀ u ∈ out, ∃ b, u = Value.ref b := fun u hu => by
      obtain ⟨b, _, e⟩ := isr u (o2.perm.mem_iff.mp hu)
      exact ⟨b, e⟩
    obtain ⟨bs, rfl⟩ : ∃ bs : List Addr, out = bs.map Value.ref := by
      clear o1 o2
      induction out with
      | nil => exact ⟨[], rfl⟩
      | cons u out ih =>
        obtain ⟨b, rfl⟩ := h3 u List.mem_cons_self
        obtain ⟨bs, rfl⟩ := ih fun v hv => h3 v (List.mem_cons_of_mem _ hv)
        exact ⟨b :: bs, rfl⟩
    have inj : ∀ x y : Addr, Value.ref x = Value.ref y → x = y := fun x y e => by cases e; rfl
    have pb : bs.Perm as := by
      have e := o2.perm.map (fun v => match v with | Value.ref b => b | _ => 0)
      rw [List.map_map, List.map_map] at e
      have id1 : ((fun v => match v with | Value.ref b => b | _ => 0) ∘ Value.ref : Addr → Addr) = id := rfl
      rw [id1, List.map_id, List.map_id] at e
      exact e
    have kF : ∀ b o, b ≠ g.objs.size → g2.get? b = some o → (sortedHeap g2 g.objs.size (as.map Value.ref) (bs.map Value.ref).toArray).get? b = some o := fun b o hb e => (sortedHeap_old hb (Heap.lt_size e)).trans e
    have kS : ∀ b o, s.heap.get? b = some o → (sortedHeap g2 g.objs.size (as.map Value.ref) (bs.map Value.ref).toArray).get? b = some o := fun b o e => kF b o (off _ _ (keep b o e)) (up b o (keep b o e))
    obtain ⟨eF, heF⟩ := sortedHeap_at (vs := as.map Value.ref) (out := (bs.map Value.ref).toArray) top
    have I1 : Inv X pins σ H { s with heap := sortedHeap g2 g.objs.size (as.map Value.ref) (bs.map Value.ref).toArray, toks := tk } := I.kept (t' := tk) kS
    have hn0 : H g.objs.size = none := I.hok.fresh (Nat.le_of_lt more)
    have bl : bs.length = zs.length := pb.length_eq.trans lak
    have I2 : Inv X pins σ (upd H g.objs.size (.lst (bs.map V.ref))) { s with heap := sortedHeap g2 g.objs.size (as.map Value.ref) (bs.map Value.ref).toArray, toks := tk } :=
      I1.take (t' := tk) (fun b ob _ e => e) (I.fpOk (Nat.le_of_lt more) hn0) ⟨by rw [List.length_map, bl]; exact z, bs.map Value.ref, eF, LiI.vals_refs bs, heF⟩
    obtain ⟨H2, I3, gr, qt⟩ := takeT (P := fun b vs => vs = [.int (k (.ref b)).1, .int (k (.ref b)).2]) I as _ I2 nd fun b hb => by
      have hbl : s.heap.objs.size ≤ b := Nat.le_of_lt (made.above b hb)
      obtain ⟨b', o', t', u', n', e1, e2, e3, e4⟩ := hk b hb
      cases e1
      refine ⟨hbl, ?_, _, rfl, fun H3 => ⟨by show 2 ≤ sizeLine; decide, [.int (k (.ref b)).1 t', .int (k (.ref b)).2 u'], .cons ⟨t', rfl⟩ (.cons ⟨u', rfl⟩ .nil), ⟨o', kF _ _ (off _ _ e2) (up _ _ e2), e3, n', e4⟩⟩⟩
      rw [upd_ne (off _ _ e2)]
      exact I.hok.fresh hbl
    refine ⟨.ref g.objs.size, H2, I3, rfl, q H2 g.objs.size (bs.map fun b => (b, k (.ref b))) (fun b o e => gr b o (by rw [upd_ne (ne_of_none e hn0)]; exact e)) hn0 ?_ ?_ ?_ ?_⟩
    · rw [List.map_map]
      have e := pb.map (fun b => k (.ref b))
      rw [mz] at e
      exact e
    · rw [List.map_map, List.pairwise_map]
      have e := o1
      unfold SrtO.Srtd at e
      rw [List.pairwise_map] at e
      exact e
    · rw [List.map_map]
      exact gr _ _ upd_same
    · intro y hy
      obtain ⟨b, hb, rfl⟩ := List.mem_map.mp hy
      obtain ⟨vs, rfl, hH⟩ := qt b (pb.mem_iff.mp hb)
      exact hH
end Tw

/-! Rounds: least periods, how many numbers have each. -/
namespace Tw
open PySem PySem.Spec PyProof.Rows L2
theorem itr_add (f : Int → Int) (a b : Nat) (x : Int) : itr f (a + b) x = itr f a (itr f b x) := by
  induction a with
  | zero => rw [Nat.zero_add]; rfl
  | succ a ih => rw [Nat.add_right_comm]; exact congrArg f ih
theorem itr_one (f : Int → Int) (n : Nat) (x : Int) : itr f n (f x) = itr f (n + 1) x := (itr_add f n 1 x).symm
theorem itr_fix {f : Int → Int} {L : Nat} {x : Int} (h : itr f L x = x) : ∀ n, itr f (L * n) x = x
  | 0 => rfl
  | n + 1 => by rw [Nat.mul_succ, itr_add, h, itr_fix h n]
def Per (f : Int → Int) (L : Nat) (x : Int) : Prop := 0 < L ∧ itr f L x = x ∧ ∀ j, j < L → 0 < j → itr f j x ≠ x
theorem per_uniq {f : Int → Int} {L M : Nat} {x : Int} (h : Per f L x) (g : Per f M x) : L = M := by
  rcases Nat.lt_trichotomy L M with c | c | c
  · exact absurd h.2.1 (g.2.2 L c h.1)
  · exact c
  · exact absurd g.2.1 (h.2.2 M c g.1)
theorem per_ex {f : Int → Int} {x : Int} : ∀ n : Nat, 0 < n → itr f n x = x → ∃ L, L ≤ n ∧ Per f L x := by
  intro n
  induction n using Nat.strongRecOn with
  | ind n ih =>
    intro h0 h
    by_cases c : ∃ j, j < n ∧ 0 < j ∧ itr f j x = x
    · obtain ⟨j, j1, j2, j3⟩ := c
      obtain ⟨L, l1, l2⟩ := ih j j1 j2 j3
      exact ⟨L, by omega, l2⟩
    · exact ⟨n, Nat.le_refl n, h0, h, fun j j1 j2 j3 => c ⟨j, j1, j2, j3⟩⟩
open Classical in
noncomputable def pcnt (f : Int → Int) (ws : List Int) (L : Nat) : Nat := ws.countP fun x => decide (Per f L x)
theorem pcnt_app (f : Int → Int) (ws vs : List Int) (L : Nat) : pcnt f (ws ++ vs) L = pcnt f ws L + pcnt f vs L := List.countP_append ..
theorem pcnt_zero {f : Int → Int} {ws : List Int} {L : Nat} (h : ∀ x ∈ ws, ¬ Per f L x) : pcnt f ws L = 0 := by
  unfold pcnt
  rw [List.countP_eq_zero]
  intro x hx
  simp [h x hx]
theorem pcnt_same {f : Int → Int} {ws vs : List Int} {L : Nat} (n1 : ws.Nodup) (n2 : vs.Nodup) (h : ∀ x, Per f L x → (x ∈ ws ↔ x ∈ vs)) : pcnt f ws L = pcnt f vs L := by
  unfold pcnt
  rw [List.countP_eq_length_filter, List.countP_eq_length_filter]
  refine List.Perm.length_eq ((List.perm_ext_iff_of_nodup (n1.filter _) (n2.filter _)).mpr fun x => ?_)
  rw [List.mem_filter, List.mem_filter]
  simp only [decide_eq_true_eq]
  exact ⟨fun z => ⟨(h x z.2).mp z.1, z.2⟩, fun z => ⟨(h x z.2).mpr z.1, z.2⟩⟩
theorem pcnt_pos {f : Int → Int} {ws : List Int} {L : Nat} : 0 < pcnt f ws L ↔ ∃ x, x ∈ ws ∧ Per f L x := by
  unfold pcnt
  rw [List.countP_pos_iff]
  simp
/-! ### a walk's new numbers -/
theorem orb_cons (f : Int → Int) (n : Nat) (x : Int) : orb f (n + 1) x = x :: orb f n (f x) := by
  unfold orb
  rw [List.range_succ_eq_map, List.map_cons, List.map_map]
  refine congrArg (x :: ·) (List.map_congr_left fun i _ => ?_)
  exact (itr_one f i x).symm
theorem orb_mem {f : Int → Int} {n : Nat} {x y : Int} : y ∈ orb f n x ↔ ∃ i, i < n ∧ itr f i x = y := by
  unfold orb
  simp [List.mem_map, List.mem_range]
theorem wk_form (f : Int → Int) : ∀ (k : Nat) (ws : List Int) (x : Int), ∃ n, n ≤ k ∧ wk f k ws x = (ws ++ orb f n x, itr f n x)
  | 0, ws, x => ⟨0, Nat.le_refl 0, by show (ws, x) = (ws ++ [], x); rw [List.append_nil]⟩
  | k + 1, ws, x => by
    by_cases h : x ∈ ws
    · refine ⟨0, Nat.zero_le _, ?_⟩
      rw [wk_in h]
      show (ws, x) = (ws ++ [], x)
      rw [List.append_nil]
    · obtain ⟨n, hn, e⟩ := wk_form f k (ws ++ [x]) (f x)
      refine ⟨n + 1, by omega, ?_⟩
      rw [wk_out h, e, orb_cons, List.append_assoc, itr_one]
      rfl
/-- closed under steps -/
def Fcl (f : Int → Int) (ws : List Int) : Prop := ∀ a ∈ ws, f a ∈ ws
theorem fcl_itr {f : Int → Int} {ws : List Int} (h : Fcl f ws) {a : Int} (ha : a ∈ ws) : ∀ n, itr f n a ∈ ws
  | 0 => ha
  | n + 1 => h _ (fcl_itr h ha n)
theorem fcl_walk {f : Int → Int} {ws : List Int} {x : Int} {n : Nat} (h : Fcl f ws) (hy : itr f n x ∈ ws ++ orb f n x) : Fcl f (ws ++ orb f n x) := by
  intro a ha
  rcases List.mem_append.mp ha with ha | ha
  · exact List.mem_append_left _ (h a ha)
  · obtain ⟨i, hi, rfl⟩ := orb_mem.mp ha
    by_cases c : i + 1 < n
    · exact List.mem_append_right _ (orb_mem.mpr ⟨i + 1, c, rfl⟩)
    · obtain rfl : n = i + 1 := by omega
      exact hy
theorem orb_inj {f : Int → Int} {ws : List Int} {n : Nat} {x : Int} (nd : (ws ++ orb f n x).Nodup) {i j : Nat} (hi : i < n) (hj : j < n) (e : itr f i x = itr f j x) : i = j := by
  have nd2 := (List.nodup_append.mp nd).2.1
  unfold orb at nd2
  have z : ((List.range n).map fun i => itr f i x)[i]? = ((List.range n).map fun i => itr f i x)[j]? := by
    rw [List.getElem?_map, List.getElem?_map, List.getElem?_range hi, List.getElem?_range hj]
    exact congrArg some e
  exact (List.getElem?_inj (by rw [List.length_map, List.length_range]; exact hi) nd2).mp z
/-- the walk ends in old numbers: none of the new ones comes again -/
theorem walk_old {f : Int → Int} {ws : List Int} {n : Nat} {x : Int} (nd : (ws ++ orb f n x).Nodup) (fc : Fcl f ws) (h : itr f n x ∈ ws) {i : Nat} (hi : i < n) (L : Nat) : ¬ Per f L (itr f i x) := by
  rintro ⟨l0, l1, _⟩
  have e := itr_fix l1 n
  have le : n ≤ L * n := Nat.le_mul_of_pos_left n l0
  rw [← itr_add, show L * n + i = (L * n - (n - i)) + n by omega, itr_add] at e
  have hm : itr f i x ∈ ws := by rw [← e]; exact fcl_itr fc h _
  exact (List.nodup_append.mp nd).2.2 _ hm _ (orb_mem.mpr ⟨i, hi, rfl⟩) rfl
section
variable {f : Int → Int} {ws : List Int} {n j : Nat} {x : Int}
theorem cyc_step (hj : j < n) (h : itr f n x = itr f j x) {i : Nat} (hi : j ≤ i) : itr f (i + (n - j)) x = itr f i x := by
  rw [show i + (n - j) = (i - j) + n by omega, itr_add, h, ← itr_add, show i - j + j = i by omega]
theorem cyc_in (hj : j < n) (h : itr f n x = itr f j x) (i : Nat) : j ≤ i → ∃ k, j ≤ k ∧ k < n ∧ itr f i x = itr f k x := by
  induction i using Nat.strongRecOn with
  | ind i ih =>
    intro hi
    by_cases c : i < n
    · exact ⟨i, hi, c, rfl⟩
    · obtain ⟨k, k1, k2, k3⟩ := ih (i - (n - j)) (by omega) (by omega)
      refine ⟨k, k1, k2, ?_⟩
      rw [← k3, ← cyc_step hj h (i := i - (n - j)) (by omega), show i - (n - j) + (n - j) = i by omega]
theorem walk_tail (nd : (ws ++ orb f n x).Nodup) (hj : j < n) (h : itr f n x = itr f j x) {i : Nat} (hi : i < j) (L : Nat) : ¬ Per f L (itr f i x) := by
  rintro ⟨l0, l1, _⟩
  have e := itr_fix l1 n
  have le : n ≤ L * n := Nat.le_mul_of_pos_left n l0
  rw [← itr_add] at e
  obtain ⟨k, k1, k2, k3⟩ := cyc_in hj h (L * n + i) (by omega)
  have := orb_inj nd k2 (by omega) (k3.symm.trans e)
  omega
theorem walk_cyc (nd : (ws ++ orb f n x).Nodup) (hj : j < n) (h : itr f n x = itr f j x) {i : Nat} (hi : j ≤ i) (hn : i < n) : Per f (n - j) (itr f i x) := by
  refine ⟨by omega, ?_, fun d d1 d0 e => ?_⟩
  · rw [← itr_add, Nat.add_comm]
    exact cyc_step hj h hi
  · rw [← itr_add] at e
    by_cases c : d + i < n
    · have := orb_inj nd c hn e
      omega
    · have e2 : itr f (d + i) x = itr f (d + i - (n - j)) x := by
        have := cyc_step hj h (i := d + i - (n - j)) (by omega)
        rw [show d + i - (n - j) + (n - j) = d + i by omega] at this
        exact this
      have := orb_inj nd (i := d + i - (n - j)) (j := i) (by omega) hn (e2.symm.trans e)
      omega
end
theorem cnt_from (j : Nat) : ∀ n, (List.range n).countP (fun i => decide (j ≤ i)) = n - j
  | 0 => by simp
  | n + 1 => by
    rw [List.range_succ, List.countP_append, cnt_from j n]
    by_cases c : j ≤ n
    · rw [List.countP_cons_of_pos (by simp [c])]
      show n - j + (0 + 1) = n + 1 - j
      omega
    · rw [List.countP_cons_of_neg (by simp [c])]
      show n - j + 0 = n + 1 - j
      omega
theorem pcnt_old {f : Int → Int} {ws : List Int} {n : Nat} {x : Int} (nd : (ws ++ orb f n x).Nodup) (fc : Fcl f ws) (h : itr f n x ∈ ws) (L : Nat) : pcnt f (ws ++ orb f n x) L = pcnt f ws L := by
  rw [pcnt_app, pcnt_zero (ws := orb f n x), Nat.add_zero]
  intro y hy
  obtain ⟨i, hi, rfl⟩ := orb_mem.mp hy
  exact walk_old nd fc h hi L
theorem pcnt_new {f : Int → Int} {ws : List Int} {n j : Nat} {x : Int} (nd : (ws ++ orb f n x).Nodup) (hj : j < n) (h : itr f n x = itr f j x) (L : Nat) : pcnt f (ws ++ orb f n x) L = pcnt f ws L + if L = n - j then n - j else 0 := by
  rw [pcnt_app]
  refine congrArg (pcnt f ws L + ·) ?_
  by_cases c : L = n - j
  · rw [if_pos c, ← cnt_from j n]
    unfold pcnt orb
    rw [List.countP_map]
    refine List.countP_congr fun i hi => ?_
    rw [List.mem_range] at hi
    simp only [Function.comp, decide_eq_true_eq]
    constructor
    · intro z
      refine Nat.le_of_not_lt fun z2 => ?_
      exact walk_tail nd hj h z2 L z
    · intro z
      rw [c]
      exact walk_cyc nd hj h z hi
  · rw [if_neg c]
    refine pcnt_zero fun y hy z => ?_
    obtain ⟨i, hi, rfl⟩ := orb_mem.mp hy
    by_cases d : j ≤ i
    · exact c (per_uniq z (walk_cyc nd hj h d hi))
    · exact walk_tail nd hj h (by omega) L z
/-! ### all numbers of a bound -/
def alls (m : Int) : List Int := (List.range m.toNat).map fun (i : Nat) => (i : Int)
theorem alls_mem {m x : Int} : x ∈ alls m ↔ 0 ≤ x ∧ x < m := by
  unfold alls
  rw [List.mem_map]
  constructor
  · rintro ⟨i, hi, rfl⟩
    rw [List.mem_range] at hi
    omega
  · rintro ⟨h0, h1⟩
    exact ⟨x.toNat, by rw [List.mem_range]; omega, by show ((x.toNat : Nat) : Int) = x; omega⟩
theorem alls_nodup (m : Int) : (alls m).Nodup := by
  unfold alls
  rw [List.nodup_iff_pairwise_ne, List.pairwise_map]
  have := List.nodup_range (n := m.toNat)
  rw [List.nodup_iff_pairwise_ne] at this
  exact this.imp fun {a b} h => by omega
/-- how many numbers have the least period L -/
noncomputable def Nper (f : Int → Int) (m : Int) (L : Nat) : Nat := pcnt f (alls m) L
noncomputable def Crnd (f : Int → Int) (m : Int) (L : Nat) : Int := ((Nper f m L / L : Nat) : Int)
structure Rds (f : Int → Int) (m : Int) (zs : List (Int × Int)) : Prop where
  up : zs.Pairwise fun y z => y.1 < z.1
  mem : ∀ L c : Int, (L, c) ∈ zs ↔ ∃ n : Nat, L = n ∧ 0 < Nper f m n ∧ c = Crnd f m n
theorem up_uniq : ∀ {l k : List (Int × Int)}, l.Pairwise (fun y z => y.1 < z.1) → k.Pairwise (fun y z => y.1 < z.1) → (∀ z, z ∈ l ↔ z ∈ k) → l = k
  | [], [], _, _, _ => rfl
  | [], b :: k, _, _, h => absurd ((h b).mpr List.mem_cons_self) (by simp)
  | a :: l, [], _, _, h => absurd ((h a).mp List.mem_cons_self) (by simp)
  | a :: l, b :: k, h1, h2, h => by
    rw [List.pairwise_cons] at h1 h2
    have e : a = b := by
      rcases List.mem_cons.mp ((h a).mp List.mem_cons_self) with e | e
      · exact e
      · rcases List.mem_cons.mp ((h b).mpr List.mem_cons_self) with e2 | e2
        · exact e2.symm
        · have := h2.1 a e
          have := h1.1 b e2
          omega
    subst e
    refine congrArg (a :: ·) (up_uniq h1.2 h2.2 fun z => ⟨fun hz => ?_, fun hz => ?_⟩)
    · rcases List.mem_cons.mp ((h z).mp (List.mem_cons_of_mem _ hz)) with e | e
      · have := h1.1 z hz
        rw [e] at this
        omega
      · exact e
    · rcases List.mem_cons.mp ((h z).mpr (List.mem_cons_of_mem _ hz)) with e | e
      · have := h2.1 z hz
        rw [e] at this
        omega
      · exact e
theorem Rds.uniq {f : Int → Int} {m : Int} {zs ys : List (Int × Int)} (h : Rds f m zs) (g : Rds f m ys) : zs = ys :=
  up_uniq h.up g.up fun z => (h.mem z.1 z.2).trans (g.mem z.1 z.2).symm
/-- what stands behind all walks -/
theorem nper_of {f : Int → Int} {m : Int} {ws : List Int} (nd : ws.Nodup) (rg : Rng m ws) (h : ∀ x, 0 ≤ x → x < m → (∃ L, Per f L x) → x ∈ ws) (L : Nat) : pcnt f ws L = Nper f m L :=
  pcnt_same nd (alls_nodup m) fun x hx => ⟨fun z => alls_mem.mpr (rg x z), fun z => by
    obtain ⟨a, b⟩ := alls_mem.mp z
    exact h x a b ⟨L, hx⟩⟩
/-! ### numbers that come again -/
theorem pigeon {m : Int} (h : Nat → Int) (hr : ∀ i, 0 ≤ h i ∧ h i < m) : ∃ i j, i < j ∧ h i = h j := by
  refine Classical.byContradiction fun c => ?_
  have nd : ((List.range (m.toNat + 1)).map h).Nodup := by
    rw [List.nodup_iff_pairwise_ne, List.pairwise_map]
    have := List.pairwise_lt_range (n := m.toNat + 1)
    exact this.imp fun {a b} l e => c ⟨a, b, l, e⟩
  have := int_len (m := m) nd fun x hx => by
    obtain ⟨i, _, rfl⟩ := List.mem_map.mp hx
    exact hr i
  rw [List.length_map, List.length_range] at this
  omega
/-- where each is a next one of one of them, each comes again -/
theorem onto_per {f : Int → Int} {m : Int} {l : List Int} (rg : Rng m l) (on : ∀ y ∈ l, ∃ z ∈ l, f z = y) {x : Int} (hx : x ∈ l) : ∃ L, Per f L x := by
  obtain ⟨g, hg⟩ : ∃ g : Int → Int, ∀ y ∈ l, g y ∈ l ∧ f (g y) = y := by
    refine ⟨fun y => if h : ∃ z, z ∈ l ∧ f z = y then h.choose else 0, fun y hy => ?_⟩
    have h : ∃ z, z ∈ l ∧ f z = y := by
      obtain ⟨z, h1, h2⟩ := on y hy
      exact ⟨z, h1, h2⟩
    show dite _ _ _ ∈ l ∧ f (dite _ _ _) = y
    rw [dif_pos h]
    exact h.choose_spec
  have gm : ∀ i, itr g i x ∈ l := fun i => by
    induction i with
    | zero => exact hx
    | succ i ih => exact (hg _ ih).1
  have fg : ∀ i, itr f i (itr g i x) = x := fun i => by
    induction i with
    | zero => rfl
    | succ i ih =>
      rw [← itr_one]
      show itr f i (f (g (itr g i x))) = x
      rw [(hg _ (gm i)).2]
      exact ih
  obtain ⟨i, j, hij, e⟩ := pigeon (m := m) (fun i => itr g i x) fun i => rg _ (gm i)
  have e2 := fg j
  rw [← show itr g i x = itr g j x from e, show j = (j - i) + i by omega, itr_add, fg i] at e2
  obtain ⟨L, _, h⟩ := per_ex (j - i) (by omega) e2
  exact ⟨L, h⟩
theorem per_prev {f : Int → Int} {L : Nat} {x : Int} (h : Per f L x) : ∃ y, f y = x ∧ (∃ n, itr f n x = y) ∧ ∃ M, Per f M y := by
  obtain ⟨h0, h1, _⟩ := h
  obtain ⟨k, rfl⟩ : ∃ k, L = k + 1 := ⟨L - 1, by omega⟩
  refine ⟨itr f k x, h1, ⟨k, rfl⟩, ?_⟩
  have e : itr f (k + 1) (itr f k x) = itr f k x := by rw [← itr_add, Nat.add_comm, itr_add, h1]
  obtain ⟨M, _, hM⟩ := per_ex (k + 1) (by omega) e
  exact ⟨M, hM⟩
end Tw

/-! All rounds: the dict of lengths, the promises. -/
namespace Tw
open PySem PySem.Spec PyProof.Rows L2
def rdD (ks : List Nat) (c : Nat → Int) : List (Int × Int) := ks.map fun (L : Nat) => ((L : Int), c L)
theorem rdD_len (ks : List Nat) (c : Nat → Int) : (dInts (rdD ks c)).length = ks.length := by
  unfold dInts rdD
  rw [List.length_map, List.length_map]
theorem rdD_congr {ks : List Nat} {c d : Nat → Int} (h : ∀ L ∈ ks, c L = d L) : rdD ks c = rdD ks d := List.map_congr_left fun L hL => by rw [h L hL]
theorem rdD_in {c : Nat → Int} {L : Nat} : ∀ {ks : List Nat}, L ∈ ks → valV (dInts (rdD ks c)) (Sum.inl (L : Int)) = some (.int (c L))
  | k :: ks, h => by
    show valV ((Sum.inl (k : Int), V.int (c k)) :: dInts (rdD ks c)) _ = _
    by_cases e : k = L
    · subst e
      rw [valV_pos rfl]
    · rw [valV_neg (fun z => e (by have := Sum.inl.inj z; omega))]
      exact rdD_in ((List.mem_cons.mp h).resolve_left fun z => e z.symm)
theorem rdD_out {c : Nat → Int} {L : Nat} : ∀ {ks : List Nat}, L ∉ ks → valV (dInts (rdD ks c)) (Sum.inl (L : Int)) = none
  | [], _ => rfl
  | k :: ks, h => by
    show valV ((Sum.inl (k : Int), V.int (c k)) :: dInts (rdD ks c)) _ = _
    rw [valV_neg (fun z => h (by have := Sum.inl.inj z; rw [show L = k by omega]; exact List.mem_cons_self))]
    exact rdD_out fun z => h (List.mem_cons_of_mem _ z)
theorem rdD_put {c : Nat → Int} {L : Nat} {v : Int} {ks : List Nat} (h : L ∈ ks) : putK (dInts (rdD ks c)) (Sum.inl (L : Int)) (.int v) = dInts (rdD ks fun M => if M = L then v else c M) := by
  unfold putK
  rw [valV_any, rdD_in h, if_pos Option.isSome_some]
  unfold dInts rdD
  rw [List.map_map, List.map_map, List.map_map]
  refine List.map_congr_left fun M _ => ?_
  show (if (Sum.inl (M : Int) : Key) = Sum.inl (L : Int) then ((Sum.inl (M : Int) : Key), V.int v) else (Sum.inl (M : Int), V.int (c M))) = (Sum.inl (M : Int), V.int (if M = L then v else c M))
  by_cases e : M = L
  · rw [if_pos (by rw [e]), if_pos e]
  · rw [if_neg (fun z => e (by have := Sum.inl.inj z; omega)), if_neg e]
theorem rdD_add {c : Nat → Int} {L : Nat} {v : Int} {ks : List Nat} (h : L ∉ ks) : putK (dInts (rdD ks c)) (Sum.inl (L : Int)) (.int v) = dInts (rdD (ks ++ [L]) fun M => if M = L then v else c M) := by
  rw [putK_new _ (rdD_out h)]
  have e : rdD (ks ++ [L]) (fun M => if M = L then v else c M) = rdD ks c ++ [((L : Int), v)] := by
    unfold rdD
    rw [List.map_append]
    refine congr (congrArg _ (List.map_congr_left fun M hM => ?_)) ?_
    · have ne : M ≠ L := fun z => h (by rw [← z]; exact hM)
      show ((M : Int), if M = L then v else c M) = ((M : Int), c M)
      rw [if_neg ne]
    · show [((L : Int), if L = L then v else c L)] = _
      rw [if_pos rfl]
  rw [e]
  unfold dInts
  rw [List.map_append]
  rfl
/-- the pairs told -/
def TupP (H : Hp) (q : Addr) (ps : List (Addr × (Int × Int))) : Prop := H q = some (.tup (ps.map fun z => V.ref z.1)) ∧ ∀ z ∈ ps, H z.1 = some (.tup [.int z.2.1, .int z.2.2])
theorem TupP.same {H H' : Hp} {q : Addr} {ps : List (Addr × (Int × Int))} (h : TupP H q ps) (s : Same H H') : TupP H' q ps := ⟨s _ _ h.1, fun z hz => s _ _ (h.2 z hz)⟩
def pAllR (K : PySem.W.Frag) : V → Hp → VK → XK → Prop := fun a H Q _ => ∃ (r : Addr) (t p m : Int), a = .ref r ∧ SqT K H r [.int t, .int p, .int m] ∧ Rule t p m ∧ m ≤ 2000 ∧
  ∀ H' q ps, Same H H' → H q = none → TupP H' q ps → Rds (stp t p m) m (ps.map (·.2)) → Q (.ref q) H'
def dPairs (zs : List (Int × Int)) : PyData := .tuple (zs.map fun z => .tuple [.int z.1, .int z.2])
theorem lay_pairs : ∀ zs : List (Int × Int), PyData.canLayAll0 (zs.map fun z => .tuple [.int z.1, .int z.2]) = true ∧ PyData.depthAll (zs.map fun z => .tuple [.int z.1, .int z.2]) ≤ 1
  | [] => ⟨rfl, by decide⟩
  | z :: zs => by
    obtain ⟨h1, h2⟩ := lay_pairs zs
    constructor
    · show (PyData.canLay0 (.tuple [.int z.1, .int z.2]) && PyData.canLayAll0 (zs.map fun z => .tuple [.int z.1, .int z.2])) = true
      rw [h1]
      rfl
    · show max (PyData.depth (.tuple [.int z.1, .int z.2])) (PyData.depthAll (zs.map fun z => .tuple [.int z.1, .int z.2])) ≤ 1
      have : PyData.depth (.tuple [.int z.1, .int z.2]) = 1 := rfl
      omega
theorem shp_pairs (zs : List (Int × Int)) : SeqAt.shaped (dPairs zs) = true := by
  obtain ⟨h1, h2⟩ := lay_pairs zs
  show (PyData.canLayAll0 (zs.map fun z => .tuple [.int z.1, .int z.2]) && decide (PyData.depthAll (zs.map fun z => .tuple [.int z.1, .int z.2]) + 1 ≤ 64)) = true
  rw [h1, decide_eq_true (by omega)]
  rfl
theorem dp_pairs {K : PySem.W.Frag} {H : Hp} : ∀ ps : List (Addr × (Int × Int)), (∀ z ∈ ps, H z.1 = some (.tup [.int z.2.1, .int z.2.2])) → DpAll K H (ps.map fun z => V.ref z.1) ((ps.map (·.2)).map fun z => PyData.tuple [.int z.1, .int z.2])
  | [], _ => .nil
  | z :: ps, h => .cons (.tup (SqT.of (h z List.mem_cons_self)) (.cons (.int _) (.cons (.int _) .nil))) (dp_pairs ps fun y hy => h y (List.mem_cons_of_mem _ hy))
theorem TupP.dp {K : PySem.W.Frag} {H : Hp} {q : Addr} {ps : List (Addr × (Int × Int))} (h : TupP H q ps) : Dp K H (.ref q) (dPairs (ps.map (·.2))) := .tup (SqT.of h.1) (dp_pairs ps h.2)
/-! ### the program's counting, walk by walk -/
noncomputable def Cws (f : Int → Int) (ws : List Int) (L : Nat) : Int := ((pcnt f ws L / L : Nat) : Int)
structure Cnt (f : Int → Int) (ws : List Int) (ks : List Nat) : Prop where
  nd : ks.Nodup
  mem : ∀ L, L ∈ ks ↔ 0 < pcnt f ws L
theorem per_pos {f : Int → Int} {ws : List Int} {L : Nat} (h : 0 < pcnt f ws L) : 0 < L := by
  obtain ⟨x, _, hx⟩ := pcnt_pos.mp h
  exact hx.1
theorem cws_old {f : Int → Int} {ws vs : List Int} (h : ∀ L, pcnt f vs L = pcnt f ws L) : Cws f vs = Cws f ws := by
  funext L
  unfold Cws
  rw [h L]
theorem Cnt.old {f : Int → Int} {ws vs : List Int} {ks : List Nat} (c : Cnt f ws ks) (h : ∀ L, pcnt f vs L = pcnt f ws L) : Cnt f vs ks := ⟨c.nd, fun L => by rw [h L]; exact c.mem L⟩
theorem cws_new {f : Int → Int} {ws vs : List Int} {c : Nat} (c0 : 0 < c) (h : ∀ L, pcnt f vs L = pcnt f ws L + if L = c then c else 0) : Cws f vs = fun L => if L = c then Cws f ws c + 1 else Cws f ws L := by
  funext L
  show Cws f vs L = if L = c then Cws f ws c + 1 else Cws f ws L
  unfold Cws
  rw [h L]
  by_cases e : L = c
  · subst e
    rw [if_pos rfl, if_pos rfl, Nat.add_div_right _ c0]
    rfl
  · rw [if_neg e, if_neg e, Nat.add_zero]
theorem Cnt.again {f : Int → Int} {ws vs : List Int} {ks : List Nat} {c : Nat} (C : Cnt f ws ks) (hc : c ∈ ks) (h : ∀ L, pcnt f vs L = pcnt f ws L + if L = c then c else 0) : Cnt f vs ks := by
  refine ⟨C.nd, fun L => ?_⟩
  rw [h L]
  by_cases e : L = c
  · subst e
    have := (C.mem L).mp hc
    exact ⟨fun _ => by omega, fun _ => hc⟩
  · rw [if_neg e, Nat.add_zero]
    exact C.mem L
theorem Cnt.more {f : Int → Int} {ws vs : List Int} {ks : List Nat} {c : Nat} (C : Cnt f ws ks) (c0 : 0 < c) (hc : c ∉ ks) (h : ∀ L, pcnt f vs L = pcnt f ws L + if L = c then c else 0) : Cnt f vs (ks ++ [c]) := by
  refine ⟨?_, fun L => ?_⟩
  · rw [List.nodup_append]
    refine ⟨C.nd, by simp, fun a ha b hb e => ?_⟩
    rw [List.mem_singleton] at hb
    exact hc (by rw [← hb, ← e]; exact ha)
  · rw [h L, List.mem_append, List.mem_singleton]
    by_cases e : L = c
    · subst e
      rw [if_pos rfl]
      exact ⟨fun _ => by omega, fun _ => .inr rfl⟩
    · rw [if_neg e, Nat.add_zero, ← C.mem L]
      exact ⟨fun z => z.resolve_right e, .inl⟩
theorem cws_none {f : Int → Int} {ws : List Int} {ks : List Nat} {c : Nat} (C : Cnt f ws ks) (hc : c ∉ ks) : Cws f ws c = 0 := by
  have : pcnt f ws c = 0 := by
    have := mt (C.mem c).mpr hc
    omega
  unfold Cws
  rw [this, Nat.zero_div]
  rfl
/-- the sorted items are the rounds -/
theorem Cnt.rds {f : Int → Int} {m : Int} {ws : List Int} {ks : List Nat} {zs : List (Int × Int)} (C : Cnt f ws ks) (all : ∀ L, pcnt f ws L = Nper f m L) (pm : zs.Perm (rdD ks (Cws f ws))) (up : zs.Pairwise fun y z => SrtO.lexB z y = false) : Rds f m zs := by
  have nd : (zs.map (·.1)).Nodup := by
    have e := pm.map (·.1)
    refine e.nodup_iff.mpr ?_
    unfold rdD
    rw [List.map_map, List.nodup_iff_pairwise_ne, List.pairwise_map]
    have n := C.nd
    rw [List.nodup_iff_pairwise_ne] at n
    exact n.imp fun {a b} h z => h (by have : (a : Int) = (b : Int) := z; omega)
  refine ⟨?_, fun L c => ?_⟩
  · rw [List.nodup_iff_pairwise_ne, List.pairwise_map] at nd
    exact (up.and nd).imp fun {a b} z => by
      have z1 := SrtO.lexB_no.mp z.1
      have z2 := z.2
      omega
  · rw [pm.mem_iff]
    unfold rdD
    rw [List.mem_map]
    constructor
    · rintro ⟨M, hM, e⟩
      obtain ⟨rfl, rfl⟩ := Prod.mk.inj e
      refine ⟨M, rfl, by rw [← all M]; exact (C.mem M).mp hM, ?_⟩
      unfold Cws Crnd
      rw [all M]
    · rintro ⟨M, rfl, h, rfl⟩
      refine ⟨M, (C.mem M).mpr (by rw [all M]; exact h), ?_⟩
      unfold Cws Crnd
      rw [all M]
end Tw
namespace Tw
open PySem PySem.Spec PyProof.Rows L2
theorem orb_get (f : Int → Int) {n i : Nat} (x : Int) (h : i < n) : (orb f n x)[i]? = some (itr f i x) := by
  unfold orb
  rw [List.getElem?_map, List.getElem?_range h]
  rfl
theorem orb_idx {f : Int → Int} {n : Nat} {x y : Int} (h : y ∈ orb f n x) : (orb f n x).idxOf y < n ∧ itr f ((orb f n x).idxOf y) x = y := by
  have hl := List.idxOf_lt_length_of_mem h
  have e := List.getElem_idxOf hl
  rw [orb_len] at hl
  refine ⟨hl, ?_⟩
  have e2 := orb_get f x hl
  rw [List.getElem?_eq_getElem (by rw [orb_len]; exact hl), e] at e2
  exact (Option.some.inj e2).symm
theorem cnt_nil (f : Int → Int) : Cnt f [] [] := ⟨List.nodup_nil, fun L => by
  constructor
  · intro h; cases h
  · intro h
    obtain ⟨x, hx, _⟩ := pcnt_pos.mp h
    cases hx⟩
end Tw

/-! Rounds by taking away what is no next one; the law's counting. -/
namespace Tw
open PySem PySem.Spec PyProof.Rows L2
theorem sub_len : ∀ {l k : List Int}, l.Nodup → (∀ x ∈ l, x ∈ k) → l.length ≤ k.length
  | [], k, _, _ => Nat.zero_le _
  | a :: l, k, nd, h => by
    rw [List.nodup_cons] at nd
    have ha := h a List.mem_cons_self
    have ih := sub_len (k := k.erase a) nd.2 fun x hx => (List.mem_erase_of_ne (fun e => nd.1 (by rw [← e]; exact hx))).mpr (h x (List.mem_cons_of_mem _ hx))
    rw [List.length_erase_of_mem ha] at ih
    have := List.length_pos_of_mem ha
    show l.length + 1 ≤ k.length
    omega
theorem sub_eq {l k : List Int} (nl : l.Nodup) (h : ∀ x ∈ l, x ∈ k) (e : l.length = k.length) {x : Int} (hx : x ∈ k) : x ∈ l := by
  refine Classical.byContradiction fun c => ?_
  have := sub_len (l := x :: l) (k := k) (List.nodup_cons.mpr ⟨c, nl⟩) fun y hy => by
    rcases List.mem_cons.mp hy with e | e
    · rw [e]; exact hx
    · exact h y e
  have e2 : (x :: l).length = l.length + 1 := rfl
  omega
theorem up_nodup {l : List Int} (h : l.Pairwise (· < ·)) : l.Nodup := by
  rw [List.nodup_iff_pairwise_ne]
  exact h.imp fun {a b} z => by omega
structure LI (f : Int → Int) (m : Int) (left : List Int) (mn : Int) : Prop where
  up : left.Pairwise (· < ·)
  rg : Rng m left
  per : ∀ x, 0 ≤ x → x < m → (∃ L, Per f L x) → x ∈ left
  cl : Fcl f left
  on : mn = left.length → ∀ y ∈ left, ∃ z ∈ left, f z = y
theorem LI.step {f : Int → Int} {m : Int} {left out : List Int} {mn : Int} (fr : ∀ x, 0 ≤ f x ∧ f x < m) (h : LI f m left mn) (up : out.Pairwise (· < ·)) (mem : ∀ k, k ∈ out ↔ k ∈ left.map f) : LI f m out left.length ∧ out.length ≤ left.length := by
  have sub : ∀ x ∈ out, x ∈ left := fun x hx => by
    obtain ⟨y, hy, rfl⟩ := List.mem_map.mp ((mem x).mp hx)
    exact h.cl y hy
  refine ⟨⟨up, fun x hx => h.rg x (sub x hx), fun x x0 x1 hp => ?_, fun x hx => ?_, fun e y hy => ?_⟩, sub_len (up_nodup up) sub⟩
  · obtain ⟨L, hL⟩ := hp
    obtain ⟨y, e1, ⟨n, e2⟩, hM⟩ := per_prev hL
    refine (mem x).mpr (List.mem_map.mpr ⟨y, ?_, e1⟩)
    have yr : 0 ≤ y ∧ y < m := by
      rw [← e2]
      cases n with
      | zero => exact ⟨x0, x1⟩
      | succ n => exact fr _
    exact h.per y yr.1 yr.2 hM
  · exact (mem _).mpr (List.mem_map.mpr ⟨x, sub x hx, rfl⟩)
  · obtain ⟨z, hz, e2⟩ := List.mem_map.mp ((mem y).mp hy)
    exact ⟨z, sub_eq (up_nodup up) sub (by omega) hz, e2⟩
theorem LI.first {f : Int → Int} {m : Int} (fr : ∀ x, 0 ≤ f x ∧ f x < m) : LI f m (alls m) (-1) := by
  refine ⟨?_, fun x hx => alls_mem.mp hx, fun x x0 x1 _ => alls_mem.mpr ⟨x0, x1⟩, fun x _ => alls_mem.mpr (fr x), fun e => by omega⟩
  unfold alls
  rw [List.pairwise_map]
  exact (List.pairwise_lt_range (n := m.toNat)).imp fun {a b} h => by omega
theorem rg_alls (m : Int) : rgV 0 m = (alls m).map V.int := by
  unfold rgV alls
  rw [List.map_map, show (m - 0).toNat = m.toNat by omega]
  refine List.map_congr_left fun i _ => ?_
  show V.int (0 + (i : Int)) = V.int (i : Int)
  rw [Int.zero_add]
theorem alls_len (m : Int) : (alls m).length = m.toNat := by
  unfold alls
  rw [List.length_map, List.length_range]
/-! ### going round in what is left -/
structure LenI (f : Int → Int) (ws ls : List Int) : Prop where
  pos : ∀ x ∈ ls, 0 < x
  cnt : ∀ L : Nat, ls.count (L : Int) * L = pcnt f ws L
theorem LenI.nil (f : Int → Int) : LenI f [] [] := ⟨fun x hx => absurd hx (by simp), fun L => Nat.zero_mul L⟩
theorem LenI.new {f : Int → Int} {ws vs ls : List Int} {c : Nat} (h : LenI f ws ls) (c0 : 0 < c) (e : ∀ L, pcnt f vs L = pcnt f ws L + if L = c then c else 0) : LenI f vs (ls ++ [(c : Int)]) := by
  refine ⟨fun x hx => ?_, fun L => ?_⟩
  · rcases List.mem_append.mp hx with hx | hx
    · exact h.pos x hx
    · rw [List.mem_singleton.mp hx]
      omega
  · rw [e L, ← h.cnt L, List.count_append, Nat.add_mul]
    refine congrArg (ls.count (L : Int) * L + ·) ?_
    by_cases z : L = c
    · subst z
      rw [if_pos rfl, List.count_singleton_self, Nat.one_mul]
    · rw [if_neg z, List.count_eq_zero_of_not_mem (fun y => z (by have := List.mem_singleton.mp y; omega)), Nat.zero_mul]
theorem walk_whole {f : Int → Int} {ws : List Int} {n : Nat} {x : Int} (nd : (ws ++ orb f n x).Nodup) (fc : Fcl f ws) (hp : ∃ L, Per f L x) (n0 : 0 < n) (hy : itr f n x ∈ ws ++ orb f n x) (L : Nat) : pcnt f (ws ++ orb f n x) L = pcnt f ws L + if L = n then n else 0 := by
  obtain ⟨M, hM⟩ := hp
  rcases List.mem_append.mp hy with h | h
  · exact absurd hM (walk_old nd fc h n0 M)
  · obtain ⟨i, hi, e⟩ := orb_mem.mp h
    cases i with
    | zero => exact pcnt_new nd n0 e.symm L
    | succ i => exact absurd hM (walk_tail nd hi e.symm (Nat.succ_pos i) M)
theorem LenI.rds {f : Int → Int} {m : Int} {ws ls out : List Int} (h : LenI f ws ls) (all : ∀ L, pcnt f ws L = Nper f m L) (up : out.Pairwise (· < ·)) (mem : ∀ k, k ∈ out ↔ k ∈ ls) : Rds f m (out.map fun k => (k, ((ls.count k : Nat) : Int))) := by
  refine ⟨?_, fun L c => ?_⟩
  · rw [List.pairwise_map]
    exact up
  · rw [List.mem_map]
    have key : ∀ n : Nat, 0 < n → ((ls.count (n : Int) : Nat) : Int) = Crnd f m n := fun n n0 => by
      unfold Crnd
      rw [← all n, ← h.cnt n, Nat.mul_div_cancel _ n0]
    constructor
    · rintro ⟨k, hk, e⟩
      obtain ⟨rfl, rfl⟩ := Prod.mk.inj e
      have hl := (mem k).mp hk
      have k0 := h.pos k hl
      obtain ⟨n, rfl⟩ := Int.eq_ofNat_of_zero_le (show 0 ≤ k by omega)
      have n0 : 0 < n := by omega
      refine ⟨n, rfl, ?_, key n n0⟩
      rw [← all n, ← h.cnt n]
      exact Nat.mul_pos (List.count_pos_iff.mpr hl) n0
    · rintro ⟨n, rfl, hn, rfl⟩
      have hn2 := hn
      rw [← all n, ← h.cnt n] at hn
      have n0 : 0 < n := Nat.pos_of_mul_pos_left hn
      have c0 : 0 < ls.count (n : Int) := Nat.pos_of_mul_pos_right hn
      exact ⟨n, (mem _).mpr (List.count_pos_iff.mp c0), by rw [key n n0]⟩
/-! ### some rules of small bounds -/
theorem nper_g {f : Int → Int} {m : Int} (g : Int → Nat) (h : ∀ x ∈ alls m, Per f (g x) x) (L : Nat) : Nper f m L = (alls m).countP fun x => decide (g x = L) := by
  unfold Nper pcnt
  refine List.countP_congr fun x hx => ?_
  simp only [decide_eq_true_eq]
  exact ⟨fun z => per_uniq (h x hx) z, fun z => by rw [← z]; exact h x hx⟩
theorem rds_001 : Rds (stp 0 0 1) 1 [(1, 1)] := by
  have e : ∀ L, Nper (stp 0 0 1) 1 L = if L = 1 then 1 else 0 := fun L => by
    rw [nper_g (fun _ => 1) (by unfold Per; decide) L, show alls 1 = [0] by decide]
    by_cases c : L = 1
    · subst c; rfl
    · rw [if_neg c, List.countP_eq_zero]
      intro x _
      simp only [decide_eq_true_eq]
      exact fun z => c z.symm
  refine ⟨by simp, fun L c => ?_⟩
  constructor
  · intro h
    obtain ⟨rfl, rfl⟩ := Prod.mk.inj (List.mem_singleton.mp h)
    refine ⟨1, rfl, by rw [e]; decide, ?_⟩
    unfold Crnd
    rw [e]
    rfl
  · rintro ⟨n, rfl, h, rfl⟩
    rw [e] at h
    by_cases c : n = 1
    · subst c
      unfold Crnd
      rw [e]
      exact List.mem_singleton.mpr rfl
    · rw [if_neg c] at h
      omega
theorem rds_106 : Rds (stp 1 0 6) 6 [(1, 6)] := by
  have e : ∀ L, Nper (stp 1 0 6) 6 L = if L = 1 then 6 else 0 := fun L => by
    rw [nper_g (fun _ => 1) (by unfold Per; decide) L]
    by_cases c : L = 1
    · subst c; rfl
    · rw [if_neg c, List.countP_eq_zero]
      intro x _
      simp only [decide_eq_true_eq]
      exact fun z => c z.symm
  refine ⟨by simp, fun L c => ?_⟩
  constructor
  · intro h
    obtain ⟨rfl, rfl⟩ := Prod.mk.inj (List.mem_singleton.mp h)
    refine ⟨1, rfl, by rw [e]; decide, ?_⟩
    unfold Crnd
    rw [e]
    rfl
  · rintro ⟨n, rfl, h, rfl⟩
    rw [e] at h
    by_cases c : n = 1
    · subst c
      unfold Crnd
      rw [e]
      exact List.mem_singleton.mpr rfl
    · rw [if_neg c] at h
      omega
theorem rds_205 : Rds (stp 2 0 5) 5 [(1, 1), (4, 1)] := by
  have e : ∀ L, Nper (stp 2 0 5) 5 L = (if L = 1 then 1 else 0) + if L = 4 then 4 else 0 := fun L => by
    rw [nper_g (fun x => if x = 0 then 1 else 4) (by unfold Per; decide) L, show alls 5 = [0, 1, 2, 3, 4] by decide]
    by_cases c : L = 1
    · subst c; rfl
    · by_cases d : L = 4
      · subst d; rfl
      · rw [if_neg c, if_neg d, List.countP_eq_zero.mpr]
        intro x _
        simp only [decide_eq_true_eq]
        intro z
        by_cases x0 : x = 0
        · rw [if_pos x0] at z; exact c z.symm
        · rw [if_neg x0] at z; exact d z.symm
  refine ⟨by simp, fun L c => ?_⟩
  constructor
  · intro h
    rcases List.mem_cons.mp h with h | h
    · obtain ⟨rfl, rfl⟩ := Prod.mk.inj h
      refine ⟨1, rfl, by rw [e]; decide, ?_⟩
      unfold Crnd
      rw [e]
      rfl
    · obtain ⟨rfl, rfl⟩ := Prod.mk.inj (List.mem_singleton.mp h)
      refine ⟨4, rfl, by rw [e]; decide, ?_⟩
      unfold Crnd
      rw [e]
      rfl
  · rintro ⟨n, rfl, h, rfl⟩
    rw [e] at h
    by_cases c : n = 1
    · subst c
      unfold Crnd
      rw [e]
      exact List.mem_cons_self
    · by_cases d : n = 4
      · subst d
        unfold Crnd
        rw [e]
        exact List.mem_cons_of_mem _ (List.mem_singleton.mpr rfl)
      · rw [if_neg c, if_neg d] at h
        omega
end Tw
namespace Tw
open PySem PySem.Spec PyProof.Rows L2
/-- a method within a comprehension: the fragment is named -/
theorem bm_in {X : Cx} {K : PySem.W.Frag} {a b : Expr} {bs : List Expr} {ta : TE} {tb : TA} {nm : Str} {p1 p2 : Pos} {T i : String} {r : V → List V → Hp → VK → Prop} (hK : X.K = K) (h1 : PlainAttrs T) (h2 : Slot T nm i) (h3 : typeOf (.builtin i) = pure (.type "method_descriptor")) (h4 : MtR X i r) (h5 : PE X a ta) (h6 : PA X (b :: bs) tb)
    (k1 : attributeBase a nm X.env (eval a X.env) = eval a X.env := by rfl)
    (k2 : ((backTo p2 (starEach (b :: bs) X.env)).all (fun x => !x.1) && (backToKw p2 (keywordEach [] X.env)).all (fun x => x.1.isSome) && decide ((b :: bs).length + ([] : List Keyword).length + (if ([] : List Keyword).isEmpty then 0 else 1) < 30)) = true := by rfl)
    (k3 : (p1.endLine == p2.line) = true := by rfl) (k4 : starEach (b :: bs) X.env = (false, eval b X.env) :: starEach bs X.env := by rfl) (k5 : (backTo p2 (starEach bs X.env)).any (·.1) = false := by rfl) : PE X (.Call (.Attribute a nm p1) (b :: bs) [] p2) (tBM K T r ta tb) := by
  subst hK
  exact pe_bm h1 h2 h3 h4 h5 h6 k1 k2 k3 k4 k5
end Tw
namespace Tw
open PySem PySem.Spec PyProof.Rows L2
theorem yesT {σ : L2.St} {H : Hp} {A B : Hp → Prop} (h : A H) : tYes σ H fun b H3 => if b = true then A H3 else B H3 := by
  show if true = true then A H else B H
  rw [if_pos rfl]
  exact h
end Tw

/-! Powers, sums of powers, common divisors, inverses. -/
namespace Tw
open PySem PySem.Spec PyProof.Rows L2
def geo (t : Int) : Nat → Int
  | 0 => 0
  | n + 1 => geo t n + t ^ n
theorem geo_add (t : Int) (a : Nat) : ∀ b, geo t (a + b) = geo t a + t ^ a * geo t b
  | 0 => by show geo t a = geo t a + t ^ a * 0; grind
  | b + 1 => by
    show geo t (a + b) + t ^ (a + b) = geo t a + t ^ a * (geo t b + t ^ b)
    rw [geo_add t a b, Int.pow_add]
    grind
theorem geo_mul (t : Int) : ∀ n, (t - 1) * geo t n = t ^ n - 1
  | 0 => by rw [Int.pow_zero]; show (t - 1) * 0 = 1 - 1; grind
  | n + 1 => by
    have ih := geo_mul t n
    show (t - 1) * (geo t n + t ^ n) = t ^ (n + 1) - 1
    rw [Int.pow_succ]
    grind
/-- what a rule of n steps is -/
def rsT (t m : Int) (n : Nat) : Int := t ^ n % m
def rsP (t p m : Int) (n : Nat) : Int := p * geo t n % m
theorem rs_T (t m : Int) (a c : Nat) : rsT t m c * rsT t m a % m = rsT t m (a + c) := by
  unfold rsT
  rw [← Int.mul_emod, Int.pow_add, Int.mul_comm]
theorem rs_P (t p m : Int) (a c : Nat) : (rsT t m c * rsP t p m a + rsP t p m c) % m = rsP t p m (a + c) := by
  unfold rsT rsP
  rw [Int.add_emod, Int.emod_emod, ← Int.mul_emod, ← Int.add_emod, Nat.add_comm a c, geo_add]
  congr 1
  grind
theorem rs_rng {t p m : Int} (h : 0 < m) (n : Nat) : (0 ≤ rsT t m n ∧ rsT t m n < m) ∧ 0 ≤ rsP t p m n ∧ rsP t p m n < m := ⟨mod_bd _ h, mod_bd _ h⟩
theorem Rule.rs {t p m : Int} (R : Rule t p m) (n : Nat) : Rule (rsT t m n) (rsP t p m n) m :=
  have h := rs_rng (t := t) (p := p) (show 0 < m by have := R.b1; omega) n
  ⟨R.b1, R.b2, h.1.1, h.1.2, h.2.1, h.2.2⟩
/-- ahead -/
def ahd (t p m : Int) (n : Nat) (x : Int) : Int := (t ^ n * x + p * geo t n) % m
theorem stp_rs (t p m : Int) (n : Nat) (x : Int) : stp (rsT t m n) (rsP t p m n) m x = ahd t p m n x := by
  unfold stp rsT rsP ahd
  rw [Int.add_emod_emod, Int.add_emod, Int.mul_emod, Int.emod_emod, ← Int.mul_emod, ← Int.add_emod]
theorem ahd_rng {t p m : Int} (h : 0 < m) (n : Nat) (x : Int) : 0 ≤ ahd t p m n x ∧ ahd t p m n x < m := mod_bd _ h
/-- the number from which n steps lead to s -/
def Back (t p m : Int) (n : Nat) (s y : Int) : Prop := 0 ≤ y ∧ y < m ∧ ahd t p m n y = s
theorem cop_pow {t m : Int} (h : Int.gcd t m = 1) (n : Nat) : Nat.Coprime m.natAbs (t ^ n).natAbs := by
  rw [Int.natAbs_pow]
  exact (Nat.Coprime.pow_left n (show Nat.Coprime t.natAbs m.natAbs from h)).symm
theorem Back.uniq {t p m : Int} {n : Nat} {s y z : Int} (hc : Int.gcd t m = 1) (h : Back t p m n s y) (k : Back t p m n s z) : y = z := by
  obtain ⟨y0, y1, ye⟩ := h
  obtain ⟨z0, z1, ze⟩ := k
  have e : (t ^ n * y + p * geo t n) % m = (t ^ n * z + p * geo t n) % m := ye.trans ze.symm
  have e2 := Int.emod_eq_emod_iff_emod_sub_eq_zero.mp e
  have e3 : m ∣ t ^ n * (y - z) := by
    have := Int.dvd_of_emod_eq_zero e2
    rw [show t ^ n * (y - z) = t ^ n * y + p * geo t n - (t ^ n * z + p * geo t n) by grind]
    exact this
  have e4 : m.natAbs ∣ (y - z).natAbs := by
    have h1 := Int.natAbs_dvd_natAbs.mpr e3
    rw [Int.natAbs_mul] at h1
    exact Nat.Coprime.dvd_of_dvd_mul_left (cop_pow hc n) h1
  have e5 : (y - z).natAbs = 0 := Nat.eq_zero_of_dvd_of_lt e4 (by omega)
  omega
/-- undone by the inverse -/
theorem back_of {t p m u : Int} (m0 : 0 < m) (hu : t * u % m = 1 % m) (s : Int) (s0 : 0 ≤ s) (s1 : s < m) : ∀ n : Nat, Back t p m n s (ahd u (-u * p % m) m n s) := by
  intro n
  refine ⟨(ahd_rng m0 n s).1, (ahd_rng m0 n s).2, ?_⟩
  obtain ⟨e, he⟩ := Int.dvd_of_emod_eq_zero (Int.emod_eq_emod_iff_emod_sub_eq_zero.mp hu)
  have htu : t * u = m * e + 1 := by omega
  have key : ∀ k : Nat, m ∣ t ^ k * (u ^ k * s + (-u * p) * geo u k) + p * geo t k - s := by
    intro k
    induction k with
    | zero =>
      rw [Int.pow_zero, Int.pow_zero]
      show m ∣ 1 * (1 * s + (-u * p) * 0) + p * 0 - s
      exact ⟨0, by grind⟩
    | succ k ih =>
      obtain ⟨c, hc⟩ := ih
      have g1 : geo u (k + 1) = 1 + u * geo u k := by
        rw [Nat.add_comm, geo_add]
        show 0 + u ^ 0 + u ^ 1 * geo u k = _
        rw [Int.pow_zero, Int.pow_one]
        grind
      have g2 : geo t (k + 1) = geo t k + t ^ k := rfl
      rw [g1, g2, Int.pow_succ, Int.pow_succ]
      generalize u ^ k = U at *
      generalize t ^ k = T at *
      generalize geo u k = G at *
      generalize geo t k = J at *
      refine ⟨c + T * e * (U * s + (-u * p) * G - p), ?_⟩
      have e1 : T * t * (U * u * s + -u * p * (1 + u * G)) + p * (J + T) - s = T * ((t * u) * (U * s + -u * p * G - p) + p) + p * J - s := by grind
      rw [e1, htu]
      have e2 : T * ((m * e + 1) * (U * s + -u * p * G - p) + p) + p * J - s = (T * (U * s + -u * p * G) + p * J - s) + m * (T * e * (U * s + -u * p * G - p)) := by grind
      rw [e2, hc]
      grind
  obtain ⟨c, hc⟩ := key n
  have hy : ∃ b, ahd u (-u * p % m) m n s = (u ^ n * s + (-u * p) * geo u n) + m * b := by
    unfold ahd
    have a1 := Int.mul_ediv_add_emod (u ^ n * s + (-u * p % m) * geo u n) m
    have a2 := Int.mul_ediv_add_emod (-u * p) m
    refine ⟨-((u ^ n * s + (-u * p % m) * geo u n) / m) - (-u * p / m) * geo u n, ?_⟩
    generalize (u ^ n * s + (-u * p % m) * geo u n) / m = d1 at *
    generalize (u ^ n * s + (-u * p % m) * geo u n) % m = d2 at *
    generalize -u * p / m = d3 at *
    generalize -u * p % m = d4 at *
    grind
  obtain ⟨b, hb⟩ := hy
  rw [hb]
  show (t ^ n * (u ^ n * s + -u * p * geo u n + m * b) + p * geo t n) % m = s
  have e3 : t ^ n * (u ^ n * s + -u * p * geo u n + m * b) + p * geo t n = s + m * (c + t ^ n * b) := by grind
  rw [e3, Int.add_mul_emod_self_left]
  exact Int.emod_eq_of_lt s0 s1
/-! ### common divisors -/
theorem gcd_step {x y : Int} (h0 : 0 ≤ x) (h1 : 0 < y) : Int.gcd y (x % y) = Int.gcd x y := by
  obtain ⟨a, rfl⟩ := Int.eq_ofNat_of_zero_le h0
  obtain ⟨b, rfl⟩ := Int.eq_ofNat_of_zero_le (Int.le_of_lt h1)
  show Nat.gcd b ((a : Int) % (b : Int)).natAbs = Nat.gcd a b
  rw [← Int.natCast_emod, Int.natAbs_natCast, Nat.gcd_comm b, ← Nat.gcd_rec, Nat.gcd_comm]
/-! ### powers by squaring -/
theorem sq_pow (t : Int) (n : Nat) : t ^ n = (if n % 2 = 1 then t else 1) * (t * t) ^ (n / 2) := by
  have e : n = 2 * (n / 2) + n % 2 := by omega
  have h2 : (t * t) ^ (n / 2) = t ^ (2 * (n / 2)) := by rw [Int.pow_mul, show t ^ 2 = t * t by rw [Int.pow_succ, Int.pow_one]]
  rw [h2]
  by_cases h : n % 2 = 1
  · rw [if_pos h]
    conv => lhs; rw [e, h, Int.pow_succ]
    exact Int.mul_comm _ _
  · rw [if_neg h, Int.one_mul]
    conv => lhs; rw [e, show n % 2 = 0 by omega, Nat.add_zero]
/-- the law's sum of powers, by a power of the bound times one less -/
theorem shares {t m P : Int} {n : Nat} (m0 : 0 < m) (t2 : 2 ≤ t) (hP : P = t ^ n % (m * (t - 1))) : P % m = t ^ n % m ∧ (P - 1) / (t - 1) % m = geo t n % m := by
  have d1 := Int.mul_ediv_add_emod (t ^ n) (m * (t - 1))
  rw [← hP] at d1
  have g := geo_mul t n
  constructor
  · rw [hP, Int.emod_emod_of_dvd _ ⟨t - 1, rfl⟩]
  · have e : P - 1 = (t - 1) * (geo t n - m * (t ^ n / (m * (t - 1)))) := by
      generalize t ^ n / (m * (t - 1)) = q at *
      grind
    rw [e, Int.mul_ediv_cancel_left _ (by omega)]
    rw [Int.sub_emod, Int.mul_emod_right, Int.sub_zero, Int.emod_emod]
theorem pow_zero_pos {n : Nat} (h : 0 < n) : (0 : Int) ^ n = 0 := by
  obtain ⟨k, rfl⟩ : ∃ k, n = k + 1 := ⟨n - 1, by omega⟩
  rw [Int.pow_succ, Int.mul_zero]
theorem geo_zero : ∀ {n : Nat}, 0 < n → geo 0 n = 1
  | 1, _ => by show (0 : Int) + 0 ^ 0 = 1; rw [Int.pow_zero]; rfl
  | n + 2, _ => by
    show geo 0 (n + 1) + 0 ^ (n + 1) = 1
    rw [geo_zero (Nat.succ_pos n), pow_zero_pos (Nat.succ_pos n)]
    rfl
theorem geo_one : ∀ n : Nat, geo 1 n = n
  | 0 => rfl
  | n + 1 => by
    show geo 1 n + 1 ^ n = ((n + 1 : Nat) : Int)
    rw [geo_one n, Int.one_pow]
    rfl
/-! ### promises -/
def pGcd : V → V → Hp → VK → XK → Prop := fun a b H Q _ => ∃ x y : Int, a = .int x ∧ b = .int y ∧ 0 ≤ x ∧ 0 ≤ y ∧ Q (.int (Int.gcd x y : Nat)) H
def pInv : V → V → Hp → VK → XK → Prop := fun a b H Q _ => ∃ x m : Int, a = .int x ∧ b = .int m ∧ 0 ≤ x ∧ 0 < m ∧ m ≤ 1000000000000 ∧ Int.gcd x m = 1 ∧ ∀ H' v, Same H H' → 0 ≤ v → v < m → x * v % m = 1 % m → Q (.int v) H'
def pChained (K : PySem.W.Frag) : V → V → Hp → VK → XK → Prop := fun a b H Q _ => ∃ (r1 r2 : Addr) (t1 p1 t2 p2 m : Int), a = .ref r1 ∧ b = .ref r2 ∧ SqT K H r1 [.int t1, .int p1, .int m] ∧ SqT K H r2 [.int t2, .int p2, .int m] ∧ Rule t1 p1 m ∧ Rule t2 p2 m ∧
  ∀ H' q, Same H H' → H q = none → H' q = some (.tup [.int (t2 * t1 % m), .int ((t2 * p1 + p2) % m), .int m]) → Q (.ref q) H'
def pRos (K : PySem.W.Frag) : V → V → Hp → VK → XK → Prop := fun a b H Q _ => ∃ (r : Addr) (t p m n : Int), a = .ref r ∧ b = .int n ∧ SqT K H r [.int t, .int p, .int m] ∧ Rule t p m ∧ 0 ≤ n ∧
  ∀ H' q, Same H H' → H' q = some (.tup [.int (rsT t m n.toNat), .int (rsP t p m n.toNat), .int m]) → Q (.ref q) H'
def pRback (K : PySem.W.Frag) (CB : Addr) : V → Hp → VK → XK → Prop := fun a H Q E => ∃ (r : Addr) (t p m : Int), a = .ref r ∧ SqT K H r [.int t, .int p, .int m] ∧ Rule t p m ∧
  (Int.gcd t m = 1 → ∀ H' q u, Same H H' → H q = none → 0 ≤ u → u < m → t * u % m = 1 % m → H' q = some (.tup [.int u, .int (-u * p % m), .int m]) → Q (.ref q) H') ∧ (Int.gcd t m ≠ 1 → E (.ref CB) none H)
def pJump (K : PySem.W.Frag) (CN CB : Addr) : V → V → V → Hp → VK → XK → Prop := fun a b c H Q E => ∃ (r : Addr) (t p m s n : Int), a = .ref r ∧ b = .int s ∧ c = .int n ∧ SqT K H r [.int t, .int p, .int m] ∧ Rule t p m ∧
  (¬ (0 ≤ s ∧ s < m) → Bad CN s H E) ∧ (0 ≤ s ∧ s < m → 0 ≤ n → ∀ H', Same H H' → Q (.int (ahd t p m n.toNat s)) H') ∧
  (0 ≤ s ∧ s < m → n < 0 → Int.gcd t m = 1 → ∀ H' y, Same H H' → Back t p m (-n).toNat s y → Q (.int y) H') ∧ (0 ≤ s ∧ s < m → n < 0 → Int.gcd t m ≠ 1 → E (.ref CB) none H)
end Tw
namespace Tw
open PySem PySem.Spec PyProof.Rows L2
/-- an error without a number: its kind's name alone -/
def pKindO (C : Addr) (nm : Str) : V → Hp → VK → XK → Prop := fun a H Q _ => ∃ e : Addr, a = .ref e ∧ H e = some (exv e (.ref C) none) ∧ ∀ H' p, Same H H' → H p = none → H' p = some (.tup [.str nm]) → Q (.ref p) H'
def pPow : V → V → V → Hp → VK → XK → Prop := fun a b c H Q _ => ∃ x n m : Int, a = .int x ∧ b = .int n ∧ c = .int m ∧ 0 ≤ x ∧ x ≤ 1000000000000 ∧ 0 ≤ n ∧ 0 < m ∧ m ≤ 1000000000000000000000000 ∧ Q (.int (x ^ n.toNat % m)) H
def pShares (K : PySem.W.Frag) : V → V → Hp → VK → XK → Prop := fun a b H Q _ => ∃ (r : Addr) (t p m n : Int), a = .ref r ∧ b = .int n ∧ SqT K H r [.int t, .int p, .int m] ∧ Rule t p m ∧ 0 ≤ n ∧
  ∀ H' q, Same H H' → H q = none → H' q = some (.lst [.int (t ^ n.toNat % m), .int (geo t n.toNat % m)]) → Q (.ref q) H'
def pAhead (K : PySem.W.Frag) : V → V → V → Hp → VK → XK → Prop := fun a b c H Q _ => ∃ (r : Addr) (t p m s n : Int), a = .ref r ∧ b = .int s ∧ c = .int n ∧ SqT K H r [.int t, .int p, .int m] ∧ Rule t p m ∧ 0 ≤ s ∧ s < m ∧ 0 ≤ n ∧ ∀ H', Same H H' → Q (.int (ahd t p m n.toNat s)) H'
theorem ahd_shares (t p m : Int) (n : Nat) (s : Int) : (t ^ n % m * s + geo t n % m * p) % m = ahd t p m n s := by
  unfold ahd
  rw [Int.add_emod, Int.mul_emod, Int.emod_emod, ← Int.mul_emod, Int.mul_emod (geo t n % m), Int.emod_emod, ← Int.mul_emod, ← Int.add_emod, Int.mul_comm (geo t n)]
def pStepsL : V → Hp → VK → XK → Prop := fun a H Q _ => ∃ (d : Addr) (n : Nat), a = .ref d ∧ Deck H d n ∧ n + 5 ≤ 100000000 ∧ ∀ (H' : Hp) (v : Int), But d H H' → Deck H' d (n + 5) → Q (.int v) H'
def pTold3 (K : PySem.W.Frag) : V → V → V → Hp → VK → XK → Prop := fun a b c H Q _ => ∃ (r : Addr) (t p m s n : Int), a = .ref r ∧ b = .int s ∧ c = .int n ∧ SqT K H r [.int t, .int p, .int m] ∧ Rule t p m ∧
  (¬ (0 ≤ s ∧ s < m) → ∀ H' q, Same H H' → H q = none → H' q = some (.tup [.str "number", .int s]) → Q (.ref q) H') ∧
  (0 ≤ s ∧ s < m → 0 ≤ n → ∀ H' q, Same H H' → H q = none → H' q = some (.lst [.int (ahd t p m n.toNat s)]) → Q (.ref q) H') ∧
  (0 ≤ s ∧ s < m → n < 0 → Int.gcd t m = 1 → ∀ H' q y, Same H H' → H q = none → Back t p m (-n).toNat s y → H' q = some (.lst [.int y]) → Q (.ref q) H') ∧
  (0 ≤ s ∧ s < m → n < 0 → Int.gcd t m ≠ 1 → ∀ H' q, Same H H' → H q = none → H' q = some (.tup [.str "back"]) → Q (.ref q) H')
def pRight3 (K : PySem.W.Frag) : V → V → V → Hp → VK → XK → Prop := fun a b c H Q _ => ∃ (r : Addr) (t p m s n : Int), a = .ref r ∧ b = .int s ∧ c = .int n ∧ SqT K H r [.int t, .int p, .int m] ∧ Rule t p m ∧ 0 ≤ s ∧ s < m ∧ ∀ H', Same H H' → Q (.bl true) H'
theorem shp_s {x : Str} (h : PyData.canLay0 (.str x) = true) : SeqAt.shaped (.tuple [.str x]) = true := by
  show (PyData.canLay0 (.tuple [.str x]) && decide (PyData.depth (.tuple [.str x]) ≤ 64)) = true
  simp [PyData.canLay0, PyData.canLayAll0] at h ⊢
  exact ⟨h, of_decide_eq_true rfl⟩
theorem shp_back : SeqAt.shaped (.tuple [.str "back"]) = true := shp_s (by decide +kernel)
end Tw
namespace Tw
theorem pow_em (a m : Int) : ∀ k : Nat, (a % m) ^ k % m = a ^ k % m
  | 0 => by rw [Int.pow_zero, Int.pow_zero]
  | k + 1 => by rw [Int.pow_succ, Int.pow_succ, Int.mul_emod, pow_em a m k, Int.emod_emod, ← Int.mul_emod]
end Tw

/-! All numbers in one round: when. -/
namespace Tw
open PySem PySem.Spec PyProof.Rows L2
/-! ### primes -/
def Prm (q : Int) : Prop := 2 ≤ q ∧ ∀ d : Int, 0 < d → d ∣ q → d = 1 ∨ d = q
theorem prm_ex : ∀ (k : Nat) (n : Int), n.toNat ≤ k → 2 ≤ n → ∃ q, Prm q ∧ q ∣ n
  | 0, n, hk, h => by omega
  | k + 1, n, hk, h => by
    by_cases hp : ∀ d : Int, 0 < d → d ∣ n → d = 1 ∨ d = n
    · exact ⟨n, ⟨h, hp⟩, ⟨1, by omega⟩⟩
    · obtain ⟨d, hd⟩ := Classical.not_forall.mp hp
      have d0 : 0 < d := Classical.byContradiction fun z => hd fun y => absurd y z
      have d1 : d ∣ n := Classical.byContradiction fun z => hd fun _ y => absurd y z
      have d2 : ¬ (d = 1 ∨ d = n) := fun z => hd fun _ _ => z
      have d3 := Int.le_of_dvd (by omega) d1
      obtain ⟨q, hq, hqd⟩ := prm_ex k d (by omega) (by omega)
      exact ⟨q, hq, Int.dvd_trans hqd d1⟩
theorem prm_of {n : Int} (h : 2 ≤ n) : ∃ q, Prm q ∧ q ∣ n := prm_ex n.toNat n (Nat.le_refl _) h
theorem prm_cop {q x : Int} (hq : Prm q) (h : ¬ q ∣ x) : Int.gcd q x = 1 := by
  have g1 : ((Int.gcd q x : Nat) : Int) ∣ q := Int.gcd_dvd_left ..
  have g2 : ((Int.gcd q x : Nat) : Int) ∣ x := Int.gcd_dvd_right ..
  have q2 := hq.1
  have g0 : 0 < ((Int.gcd q x : Nat) : Int) := by
    have : Int.gcd q x ≠ 0 := fun z => by
      have := (Int.gcd_eq_zero_iff.mp z).1
      omega
    omega
  rcases hq.2 _ g0 g1 with e | e
  · omega
  · exact absurd (e ▸ g2) h
theorem cop_dvd {a b c : Int} (h : Int.gcd a b = 1) (d : a ∣ b * c) : a ∣ c := by
  refine Int.natAbs_dvd_natAbs.mp ?_
  have h1 := Int.natAbs_dvd_natAbs.mpr d
  rw [Int.natAbs_mul] at h1
  exact Nat.Coprime.dvd_of_dvd_mul_left (show Nat.Coprime a.natAbs b.natAbs from h) h1
theorem prm_mul {q a b : Int} (hq : Prm q) (h : q ∣ a * b) : q ∣ a ∨ q ∣ b := by
  by_cases ha : q ∣ a
  · exact .inl ha
  · exact .inr (cop_dvd (prm_cop hq ha) h)
theorem prm_pow {q a : Int} (hq : Prm q) : ∀ n : Nat, q ∣ a ^ n → q ∣ a
  | 0, h => by
    rw [Int.pow_zero] at h
    have := Int.le_of_dvd (by decide) h
    have := hq.1
    omega
  | n + 1, h => by
    rw [Int.pow_succ] at h
    rcases prm_mul hq h with h | h
    · exact prm_pow hq n h
    · exact h
theorem cop_of_prm {a b : Int} (hb : 0 < b) (h : ∀ q, Prm q → q ∣ a → q ∣ b → False) : Int.gcd a b = 1 := by
  refine Classical.byContradiction fun hn => ?_
  have g2 : ((Int.gcd a b : Nat) : Int) ∣ b := Int.gcd_dvd_right ..
  have g1 : ((Int.gcd a b : Nat) : Int) ∣ a := Int.gcd_dvd_left ..
  have : Int.gcd a b ≠ 0 := fun z => by
    have := (Int.gcd_eq_zero_iff.mp z).2
    omega
  obtain ⟨q, hq, hd⟩ := prm_of (n := ((Int.gcd a b : Nat) : Int)) (by omega)
  exact h q hq (Int.dvd_trans hd g1) (Int.dvd_trans hd g2)
/-- each prime of m divides a -/
def AllP (m a : Int) : Prop := ∀ q, Prm q → q ∣ m → q ∣ a
theorem allP_pow : ∀ (j : Nat) (m a : Int), 0 < m → m < 2 ^ j → AllP m a → m ∣ a ^ j
  | 0, m, a, h0, h1, _ => by rw [Int.pow_zero] at h1; omega
  | j + 1, m, a, h0, h1, h => by
    by_cases m1 : m = 1
    · subst m1
      exact ⟨a ^ (j + 1), by omega⟩
    · obtain ⟨q, hq, c, rfl⟩ := prm_of (n := m) (by omega)
      have q2 := hq.1
      have c0 : 0 < c := by
        rcases Int.lt_or_le 0 c with h | h
        · exact h
        · have := Int.mul_nonpos_of_nonneg_of_nonpos (show 0 ≤ q by omega) h
          omega
      have c1 : 2 * c ≤ q * c := Int.mul_le_mul_of_nonneg_right q2 (by omega)
      rw [Int.pow_succ] at h1
      have ih := allP_pow j c a c0 (by omega) (fun r hr hd => h r hr (Int.dvd_trans hd ⟨q, Int.mul_comm _ _⟩))
      obtain ⟨x, hx⟩ := ih
      obtain ⟨y, hy⟩ := h q hq ⟨c, rfl⟩
      refine ⟨x * y, ?_⟩
      rw [Int.pow_succ, hx]
      conv => lhs; rhs; rw [hy]
      grind
theorem allP_iff {m a : Int} (h0 : 0 < m) (h1 : m < 2 ^ 40) : AllP m a ↔ m ∣ a ^ 40 :=
  ⟨allP_pow 40 m a h0 h1, fun h q hq hd => prm_pow hq 40 (Int.dvd_trans hd h)⟩
/-! ### sums of powers by a number that leaves 1 -/
theorem geo_cong {a t : Int} (h : a ∣ t - 1) : ∀ n : Nat, a ∣ geo t n - n
  | 0 => ⟨0, by rw [Int.mul_zero]; rfl⟩
  | n + 1 => by
    obtain ⟨x, hx⟩ := geo_cong h n
    have hp : a ∣ t ^ n - 1 := by
      have := geo_mul t n
      obtain ⟨y, hy⟩ := h
      exact ⟨y * geo t n, by rw [← this, hy]; grind⟩
    obtain ⟨z, hz⟩ := hp
    refine ⟨x + z, ?_⟩
    show geo t n + t ^ n - ((n + 1 : Nat) : Int) = _
    rw [Int.natCast_succ]
    grind
theorem geo_comp (t : Int) (q : Nat) : ∀ k : Nat, geo t (q * k) = geo t q * geo (t ^ q) k
  | 0 => by rw [Nat.mul_zero]; show (0 : Int) = _ * 0; grind
  | k + 1 => by
    rw [Nat.mul_add, Nat.mul_one, geo_add, geo_comp t q k]
    show _ = geo t q * (geo (t ^ q) k + (t ^ q) ^ k)
    rw [← Int.pow_mul]
    grind
/-- the sum of i below n, twice -/
theorem geo_two (t : Int) : ∀ n : Nat, ∃ c : Int, 2 * geo t n = 2 * n + (t - 1) * (n * (n - 1)) + (t - 1) * (t - 1) * c
  | 0 => ⟨0, by show (2 : Int) * 0 = _; grind⟩
  | n + 1 => by
    obtain ⟨c, hc⟩ := geo_two t n
    have hp : ∃ e : Int, t ^ n = 1 + (t - 1) * n + (t - 1) * (t - 1) * e := by
      have g := geo_mul t n
      obtain ⟨d, hd⟩ := geo_cong (a := t - 1) (t := t) ⟨1, by omega⟩ n
      exact ⟨d, by
        have : geo t n = n + (t - 1) * d := by omega
        rw [this] at g
        grind⟩
    obtain ⟨e, he⟩ := hp
    refine ⟨c + 2 * e, ?_⟩
    show 2 * (geo t n + t ^ n) = _
    rw [Int.natCast_succ]
    generalize geo t n = G at *
    generalize t ^ n = T at *
    grind
/-- a prime's sum of powers: the prime once -/
theorem geo_prm {q t : Int} (hq : Prm q) (h : q ∣ t - 1) (h4 : q = 2 → 4 ∣ t - 1) : ∃ u, geo t q.toNat = q * u ∧ q ∣ u - 1 := by
  have q2 := hq.1
  have cq : ((q.toNat : Nat) : Int) = q := Int.toNat_of_nonneg (by omega)
  by_cases e2 : q = 2
  · obtain ⟨b, hb⟩ := h4 e2
    subst e2
    refine ⟨1 + 2 * b, ?_, ⟨b, by omega⟩⟩
    show 0 + t ^ 0 + t ^ 1 = _
    rw [Int.pow_zero, Int.pow_one]
    omega
  · obtain ⟨c, hc⟩ := geo_two t q.toNat
    rw [cq] at hc
    obtain ⟨x, hx⟩ := geo_cong h q.toNat
    rw [cq] at hx
    obtain ⟨b, hb⟩ := h
    refine ⟨1 + x, by grind, ?_⟩
    rw [hb] at hc
    have hz : q * (2 * x) = q * (q * (b * (q - 1) + b * b * c)) := by grind
    have hz2 : 2 * x = q * (b * (q - 1) + b * b * c) := Int.eq_of_mul_eq_mul_left (by omega) hz
    have n2 : ¬ q ∣ 2 := fun z => by
      have := Int.le_of_dvd (by decide) z
      omega
    have : q ∣ x := by
      rcases prm_mul hq (show q ∣ 2 * x from ⟨_, hz2⟩) with z | z
      · exact absurd z n2
      · exact z
    rw [show 1 + x - 1 = x by omega]
    exact this
theorem prm_prm {q r : Int} (hq : Prm q) (hr : Prm r) (h : r ∣ q) : r = q := by
  have := hr.1
  rcases hq.2 r (by omega) h with e | e
  · omega
  · exact e
theorem hd_dvd : ∀ (k : Nat) (m t : Int), m.toNat ≤ k → 0 < m → AllP m (t - 1) → (4 ∣ m → 4 ∣ t - 1) → ∀ n : Nat, m ∣ geo t n ↔ m ∣ (n : Int)
  | 0, m, t, hk, h0, _, _, n => by omega
  | k + 1, m, t, hk, h0, hA, h4, n => by
    by_cases m1 : m = 1
    · subst m1
      exact ⟨fun _ => ⟨n, by omega⟩, fun _ => ⟨geo t n, by omega⟩⟩
    · obtain ⟨q, hq, c, rfl⟩ := prm_of (n := m) (by omega)
      have q2 := hq.1
      have cq : ((q.toNat : Nat) : Int) = q := Int.toNat_of_nonneg (by omega)
      have c0 : 0 < c := by
        rcases Int.lt_or_le 0 c with h | h
        · exact h
        · have := Int.mul_nonpos_of_nonneg_of_nonpos (show 0 ≤ q by omega) h
          omega
      have c1 : 2 * c ≤ q * c := Int.mul_le_mul_of_nonneg_right q2 (by omega)
      have qa : q ∣ t - 1 := hA q hq ⟨c, rfl⟩
      have q4 : q = 2 → 4 ∣ t - 1 ∨ ¬ (2 ∣ c) := fun e => by
        by_cases hc : (2 : Int) ∣ c
        · obtain ⟨d, rfl⟩ := hc
          exact .inl (h4 (by subst e; exact ⟨d, by omega⟩))
        · exact .inr hc
      -- the case that m is twice an odd number is by itself: 2 once
      have gq : ∃ u, geo t q.toNat = q * u ∧ ∀ r, Prm r → r ∣ c → r ∣ u → False := by
        by_cases e2 : q = 2 ∧ ¬ (2 ∣ c)
        · obtain ⟨rfl, hc⟩ := e2
          obtain ⟨b, hb⟩ := qa
          refine ⟨1 + b, ?_, fun r hr hrc hru => ?_⟩
          · show 0 + t ^ 0 + t ^ 1 = _
            rw [Int.pow_zero, Int.pow_one]
            omega
          · have ra : r ∣ t - 1 := hA r hr (Int.dvd_trans hrc ⟨2, Int.mul_comm _ _⟩)
            obtain ⟨x, hx⟩ := hru
            obtain ⟨y, hy⟩ := ra
            have : r ∣ 2 := ⟨2 * x - y, by grind⟩
            have e := prm_prm hq hr this
            subst e
            exact hc hrc
        · have q4' : q = 2 → 4 ∣ t - 1 := fun e => (q4 e).resolve_right fun z => e2 ⟨e, z⟩
          obtain ⟨u, hu, hu1⟩ := geo_prm hq qa q4'
          refine ⟨u, hu, fun r hr hrc hru => ?_⟩
          have ra : r ∣ t - 1 := hA r hr (Int.dvd_trans hrc ⟨q, Int.mul_comm _ _⟩)
          have hg := geo_cong ra q.toNat
          rw [hu, cq] at hg
          have rq : r ∣ q := by
            obtain ⟨x, hx⟩ := hru
            obtain ⟨y, hy⟩ := hg
            exact ⟨q * x - y, by rw [hx] at hy; grind⟩
          have e := prm_prm hq hr rq
          subst e
          obtain ⟨x, hx⟩ := hru
          obtain ⟨y, hy⟩ := hu1
          have : r ∣ 1 := ⟨x - y, by grind⟩
          have := Int.le_of_dvd (by decide) this
          omega
      obtain ⟨u, hu, hcop⟩ := gq
      have gcu : Int.gcd c u = 1 := by
        rw [Int.gcd_comm]
        exact cop_of_prm c0 fun r hr h1 h2 => hcop r hr h2 h1
      have t1 : t - 1 ∣ t ^ q.toNat - 1 := ⟨geo t q.toNat, (geo_mul t q.toNat).symm⟩
      have ih := hd_dvd k c (t ^ q.toNat) (by omega) c0 (fun r hr hd => Int.dvd_trans (hA r hr (Int.dvd_trans hd ⟨q, Int.mul_comm _ _⟩)) t1) (fun h => Int.dvd_trans (h4 (Int.dvd_trans h ⟨q, Int.mul_comm _ _⟩)) t1)
      constructor
      · intro h
        have hqn : q ∣ (n : Int) := by
          have h1 : q ∣ geo t n := Int.dvd_trans ⟨c, rfl⟩ h
          obtain ⟨x, hx⟩ := h1
          obtain ⟨y, hy⟩ := geo_cong qa n
          exact ⟨x - y, by grind⟩
        obtain ⟨j, hj⟩ := hqn
        have j0 : 0 ≤ j := by
          rcases Int.lt_or_le j 0 with h | h
          · have := Int.mul_neg_of_pos_of_neg (show 0 < q by omega) h
            omega
          · exact h
        obtain ⟨J, rfl⟩ := Int.eq_ofNat_of_zero_le j0
        have en : n = q.toNat * J := by
          have : ((q.toNat * J : Nat) : Int) = n := by rw [Int.natCast_mul, cq, hj]
          omega
        rw [en, geo_comp, hu] at h
        have h2 : c ∣ u * geo (t ^ q.toNat) J := Int.dvd_of_mul_dvd_mul_left (show q ≠ 0 by omega) (by rw [← Int.mul_assoc]; exact h)
        obtain ⟨z, hz⟩ := (ih J).mp (cop_dvd gcu h2)
        exact ⟨z, by rw [hj, hz]; grind⟩
      · rintro ⟨z, hz⟩
        have j0 : 0 ≤ c * z := by
          rcases Int.lt_or_le (c * z) 0 with h | h
          · have := Int.mul_neg_of_pos_of_neg (show 0 < q by omega) h
            rw [← Int.mul_assoc] at this
            omega
          · exact h
        obtain ⟨J, hJ⟩ := Int.eq_ofNat_of_zero_le j0
        have en : n = q.toNat * J := by
          have : ((q.toNat * J : Nat) : Int) = n := by rw [Int.natCast_mul, cq, ← hJ, hz, Int.mul_assoc]
          omega
        rw [en, geo_comp, hu]
        obtain ⟨y, hy⟩ := (ih J).mpr ⟨z, hJ.symm⟩
        exact ⟨u * y, by rw [hy]; grind⟩
/-! ### one round of all numbers -/
def Full (t p m : Int) : Prop := (∀ n : Nat, 0 < n → (n : Int) < m → p * geo t n % m ≠ 0) ∧ p * geo t m.toNat % m = 0
def Cls (t p m : Int) : Prop := Int.gcd p m = 1 ∧ AllP m (t - 1) ∧ (4 ∣ m → 4 ∣ t - 1)
theorem full_of {t p m : Int} (m0 : 0 < m) (h : Cls t p m) : Full t p m := by
  obtain ⟨h1, h2, h3⟩ := h
  have key : ∀ n : Nat, p * geo t n % m = 0 ↔ m ∣ (n : Int) := fun n => by
    rw [← hd_dvd m.toNat m t (Nat.le_refl _) m0 h2 h3 n]
    constructor
    · intro h
      exact cop_dvd (by rw [Int.gcd_comm]; exact h1) (Int.dvd_of_emod_eq_zero h)
    · rintro ⟨x, hx⟩
      exact Int.emod_eq_zero_of_dvd ⟨p * x, by rw [hx]; grind⟩
  constructor
  · intro n n0 n1 h
    have := Int.le_of_dvd (by omega) ((key n).mp h)
    omega
  · exact (key m.toNat).mpr ⟨1, by omega⟩
theorem bez : ∀ (a b : Nat), ∃ x y : Int, (a : Int) * x + (b : Int) * y = (Nat.gcd a b : Nat) := by
  intro a b
  induction a, b using Nat.gcd.induction with
  | H0 n => exact ⟨0, 1, by rw [Nat.gcd_zero_left]; grind⟩
  | H1 m n hm ih =>
    obtain ⟨x, y, h⟩ := ih
    rw [Nat.gcd_rec]
    have e : (n : Int) = (m : Int) * ((n / m : Nat) : Int) + ((n % m : Nat) : Int) := by
      have := Nat.div_add_mod n m
      rw [← Int.natCast_mul, ← Int.natCast_add, this]
    exact ⟨y - ((n / m : Nat) : Int) * x, x, by rw [← h, e]; grind⟩
theorem ahd_add (t p m : Int) (a b : Nat) (x : Int) : ahd t p m (a + b) x = ahd t p m b (ahd t p m a x) := by
  unfold ahd
  have e : (t ^ b * ((t ^ a * x + p * geo t a) % m) + p * geo t b) % m = (t ^ b * (t ^ a * x + p * geo t a) + p * geo t b) % m := by
    rw [Int.add_emod, Int.mul_emod, Int.emod_emod, ← Int.mul_emod, ← Int.add_emod]
  rw [e, Nat.add_comm a b, geo_add, Int.pow_add]
  congr 1
  grind
theorem ahd_zero (t p m : Int) (n : Nat) : ahd t p m n 0 = p * geo t n % m := by
  unfold ahd
  rw [Int.mul_zero, Int.zero_add]
theorem full_surj {t p m : Int} (m0 : 0 < m) (h : Full t p m) {x : Int} (x0 : 0 ≤ x) (x1 : x < m) : ∃ n : Nat, (n : Int) < m ∧ ahd t p m n 0 = x := by
  obtain ⟨h1, h2⟩ := h
  refine Classical.byContradiction fun hn => ?_
  have hno : ∀ n : Nat, (n : Int) < m → ahd t p m n 0 ≠ x := fun n hl e => hn ⟨n, hl, e⟩
  have inj : ∀ i j : Nat, i < j → (j : Int) < m → ahd t p m i 0 ≠ ahd t p m j 0 := by
    intro i j hij hj e
    have a1 := ahd_add t p m j (m.toNat - j) 0
    rw [show j + (m.toNat - j) = m.toNat by omega, ahd_zero t p m m.toNat, h2, ← e, ← ahd_add, ahd_zero] at a1
    exact h1 (i + (m.toNat - j)) (by omega) (by omega) a1.symm
  have nd : (((List.range m.toNat).map fun n => ahd t p m n 0)).Nodup := by
    rw [List.nodup_iff_pairwise_ne, List.pairwise_map]
    refine List.Pairwise.imp_of_mem (fun {a b} ha hb hab => ?_) List.pairwise_lt_range
    exact inj a b hab (by have := List.mem_range.mp hb; omega)
  have rg : Rng m (x :: (List.range m.toNat).map fun n => ahd t p m n 0) := by
    intro y hy
    rcases List.mem_cons.mp hy with rfl | hy
    · exact ⟨x0, x1⟩
    · obtain ⟨n, _, rfl⟩ := List.mem_map.mp hy
      exact ahd_rng m0 n 0
  have nd2 : (x :: (List.range m.toNat).map fun n => ahd t p m n 0).Nodup := by
    refine List.nodup_cons.mpr ⟨fun hm => ?_, nd⟩
    obtain ⟨n, hl, e⟩ := List.mem_map.mp hm
    exact hno n (by have := List.mem_range.mp hl; omega) e
  have := int_len nd2 rg
  rw [List.length_cons, List.length_map, List.length_range] at this
  omega
theorem cls_of {t p m : Int} (m0 : 0 < m) (h : Full t p m) : Cls t p m := by
  have sur := fun {x : Int} => full_surj m0 h (x := x)
  have dv : ∀ n : Nat, m ∣ p * geo t n - ahd t p m n 0 := fun n => by
    rw [ahd_zero]
    exact ⟨p * geo t n / m, by have := Int.mul_ediv_add_emod (p * geo t n) m; omega⟩
  have hp : Int.gcd p m = 1 := cop_of_prm m0 fun q hq h1 h2 => by
    have := hq.1
    have := Int.le_of_dvd m0 h2
    obtain ⟨n, _, e⟩ := sur (x := 1) (by decide) (by omega)
    have d := Int.dvd_trans h2 (dv n)
    rw [e] at d
    obtain ⟨x, hx⟩ := d
    obtain ⟨y, hy⟩ := h1
    have : q ∣ 1 := ⟨y * geo t n - x, by rw [hy] at hx; grind⟩
    have := Int.le_of_dvd (by decide) this
    omega
  have np : ∀ q, Prm q → q ∣ m → ¬ q ∣ p := fun q hq h1 h2 => by
    have : ((1 : Nat) : Int) = 1 := rfl
    have d : q ∣ ((Int.gcd p m : Nat) : Int) := by
      have := Int.dvd_coe_gcd h2 h1
      exact this
    rw [hp] at d
    have := Int.le_of_dvd (by decide) d
    have := hq.1
    omega
  have hA : AllP m (t - 1) := by
    intro q hq hqm
    refine Classical.byContradiction fun hn => ?_
    have q2 := hq.1
    have qm := Int.le_of_dvd m0 hqm
    have g1 := prm_cop hq hn
    obtain ⟨v, u, hb⟩ := bez q.natAbs (t - 1).natAbs
    have hg : Nat.gcd q.natAbs (t - 1).natAbs = 1 := g1
    rw [hg] at hb
    have hb2 : ∃ u v : Int, (t - 1) * u + q * v = 1 := by
      rcases Int.natAbs_eq (t - 1) with e | e
      · refine ⟨u, v, ?_⟩
        have eq : ((q.natAbs : Nat) : Int) = q := by omega
        rw [eq] at hb
        have e' : (((t - 1).natAbs : Nat) : Int) = t - 1 := e.symm
        rw [e'] at hb
        grind
      · refine ⟨-u, v, ?_⟩
        have eq : ((q.natAbs : Nat) : Int) = q := by omega
        rw [eq] at hb
        have e' : (((t - 1).natAbs : Nat) : Int) = -(t - 1) := by omega
        rw [e'] at hb
        grind
    obtain ⟨u, v, huv⟩ := hb2
    have xr := mod_bd (-p * u) (show 0 < q by omega)
    obtain ⟨n, hn, e⟩ := sur (x := -p * u % q) xr.1 (by omega)
    have xd : q ∣ ahd t p m n 0 + p * u := by
      rw [e]
      exact ⟨-(-p * u / q), by have := Int.mul_ediv_add_emod (-p * u) q; grind⟩
    have stay : ∀ j : Nat, q ∣ ahd t p m (n + j) 0 + p * u := by
      intro j
      induction j with
      | zero => exact xd
      | succ j ih =>
        rw [← Nat.add_assoc, ahd_add t p m (n + j) 1]
        obtain ⟨c, hc⟩ := ih
        generalize ahd t p m (n + j) 0 = y at *
        unfold ahd
        have g1 : geo t 1 = 1 := by show (0 : Int) + t ^ 0 = 1; rw [Int.pow_zero]; rfl
        rw [g1, Int.pow_one, Int.mul_one]
        obtain ⟨b, rfl⟩ := hqm
        have a1 := Int.mul_ediv_add_emod (t * y + p) (q * b)
        generalize (t * y + p) / (q * b) = d1 at *
        generalize (t * y + p) % (q * b) = d2 at *
        have e1 : y = q * c - p * u := by omega
        subst e1
        refine ⟨t * c + p * v - b * d1, ?_⟩
        have e2 : (t - 1) * u = 1 - q * v := by omega
        have e3 : d2 + p * u = t * (q * c - p * u) + p + p * u - q * b * d1 := by omega
        rw [e3]
        have e4 : t * (q * c - p * u) + p + p * u - q * b * d1 = t * (q * c) - p * ((t - 1) * u) + p - q * b * d1 := by grind
        rw [e4, e2]
        grind
    have l := stay (m.toNat - n)
    rw [show n + (m.toNat - n) = m.toNat by omega, ahd_zero, h.2, Int.zero_add] at l
    rcases prm_mul hq l with l | l
    · exact np q hq hqm l
    · obtain ⟨c, hc⟩ := l
      have : q ∣ 1 := ⟨(t - 1) * c + v, by rw [hc] at huv; grind⟩
      have := Int.le_of_dvd (by decide) this
      omega
  refine ⟨hp, hA, fun h4 => ?_⟩
  have m4 := Int.le_of_dvd m0 h4
  have p2 : Prm 2 := ⟨by decide, fun d d0 hd => by
    have := Int.le_of_dvd (by decide) hd
    omega⟩
  have m2 : (2 : Int) ∣ m := Int.dvd_trans ⟨2, rfl⟩ h4
  obtain ⟨b, hb⟩ := hA 2 p2 m2
  refine Classical.byContradiction fun hn => ?_
  have t3 : 4 ∣ 1 + t := by omega
  have ev : ∀ k : Nat, 4 ∣ geo t (2 * k) := fun k => by
    rw [geo_comp]
    have : geo t 2 = 1 + t := by show 0 + t ^ 0 + t ^ 1 = _; rw [Int.pow_zero, Int.pow_one]; omega
    rw [this]
    obtain ⟨c, hc⟩ := t3
    exact ⟨c * geo (t ^ 2) k, by rw [hc]; grind⟩
  obtain ⟨n, _, e⟩ := sur (x := 2) (by decide) (by omega)
  have d := Int.dvd_trans h4 (dv n)
  rw [e] at d
  obtain ⟨x, hx⟩ := d
  have hn2 : n = 2 * (n / 2) ∨ n = 1 + 2 * (n / 2) := by omega
  rcases hn2 with e2 | e2
  · obtain ⟨c, hc⟩ := ev (n / 2)
    rw [← e2] at hc
    rw [hc] at hx
    have : (4 : Int) ∣ 2 := ⟨p * c - x, by grind⟩
    have := Int.le_of_dvd (by decide) this
    omega
  · obtain ⟨c, hc⟩ := ev (n / 2)
    have g1 : geo t n = 1 + t * (4 * c) := by
      rw [e2, geo_add, hc]
      show 0 + t ^ 0 + t ^ 1 * (4 * c) = _
      rw [Int.pow_zero, Int.pow_one]
      omega
    rw [g1] at hx
    have : (2 : Int) ∣ p := ⟨1 + 2 * x - p * t * 2 * c, by grind⟩
    exact np 2 p2 m2 this
theorem full_iff {t p m : Int} (m0 : 0 < m) : Full t p m ↔ Cls t p m := ⟨cls_of m0, full_of m0⟩
def pEach : V → V → Hp → VK → XK → Prop := fun a b H Q _ => ∃ m x : Int, a = .int m ∧ b = .int x ∧ 0 < m ∧ m ≤ 1000000000000 ∧ 0 ≤ x ∧ ∀ b : Bool, (b = true ↔ AllP m x) → Q (.bl b) H
def pOneR (K : PySem.W.Frag) : V → Hp → VK → XK → Prop := fun a H Q _ => ∃ (r : Addr) (t p m : Int), a = .ref r ∧ SqT K H r [.int t, .int p, .int m] ∧ Rule t p m ∧ ∀ b : Bool, (b = true ↔ Cls t p m) → Q (.bl b) H
def pGoes (K : PySem.W.Frag) : V → Hp → VK → XK → Prop := fun a H Q _ => ∃ (r : Addr) (t p m : Int), a = .ref r ∧ SqT K H r [.int t, .int p, .int m] ∧ Rule t p m ∧ ∀ b : Bool, (b = true ↔ Full t p m) → Q (.bl b) H
theorem allP_mod {m x : Int} : AllP m (x % m) ↔ AllP m x := by
  constructor
  · intro h q hq hd
    obtain ⟨c, hc⟩ := h q hq hd
    obtain ⟨d, hd⟩ := hd
    have := Int.mul_ediv_add_emod x m
    exact ⟨d * (x / m) + c, by generalize x / m = y at *; generalize x % m = z at *; subst hd; grind⟩
  · intro h q hq hd
    obtain ⟨c, hc⟩ := h q hq hd
    obtain ⟨d, hd⟩ := hd
    have := Int.mul_ediv_add_emod x m
    exact ⟨c - d * (x / m), by generalize x / m = y at *; generalize x % m = z at *; subst hd; grind⟩
theorem iff_eq {a b : Bool} {P : Prop} (h : a = true ↔ P) (k : b = true ↔ P) : a = b := by
  cases a with
  | true => exact (k.mpr (h.mp rfl)).symm
  | false =>
    cases b with
    | false => rfl
    | true => exact absurd (h.mpr (k.mp rfl)) Bool.false_ne_true
end Tw

/-! Rounds as a whole. -/
namespace Tw
open PySem PySem.Spec PyProof.Rows L2
/-- from s: j numbers ahead of a round of c -/
structure Rho (f : Int → Int) (s : Int) (j c : Nat) : Prop where
  pos : 0 < c
  ret : itr f (j + c) s = itr f j s
  one : ∀ a b, a < j + c → b < j + c → itr f a s = itr f b s → a = b
section
variable {f : Int → Int} {s : Int} {j c : Nat}
theorem Rho.uniq {i d : Nat} (h : Rho f s j c) (g : Rho f s i d) : j = i ∧ c = d := by
  have h0 := h.pos
  have g0 := g.pos
  have e : j + c = i + d := by
    rcases Nat.lt_trichotomy (j + c) (i + d) with l | l | l
    · have := g.one _ _ l (by omega) h.ret
      omega
    · exact l
    · have := h.one _ _ l (by omega) g.ret
      omega
  have r1 := h.ret
  have r2 := g.ret
  rw [e] at r1
  have := h.one j i (by omega) (by omega) (r1.symm.trans r2)
  omega
theorem Rho.nd (h : Rho f s j c) : (([] : List Int) ++ orb f (j + c) s).Nodup := by
  rw [List.nil_append]
  unfold orb
  rw [List.nodup_iff_pairwise_ne, List.pairwise_map]
  refine List.Pairwise.imp_of_mem (fun {a b} ha hb l e => ?_) (List.pairwise_lt_range (n := j + c))
  rw [List.mem_range] at ha hb
  have := h.one a b ha hb e
  omega
theorem rho_of_per {x : Int} {L : Nat} (h : Per f L x) : Rho f x 0 L := by
  obtain ⟨h0, h1, h2⟩ := h
  have key : ∀ a b, a < b → b < L → itr f a x ≠ itr f b x := fun a b l lb e => by
    have e2 := congrArg (itr f (L - b)) e
    rw [← itr_add, ← itr_add, show L - b + b = L by omega, h1] at e2
    exact h2 (L - b + a) (by omega) (by omega) e2
  refine ⟨h0, by rw [Nat.zero_add]; exact h1, fun a b ha hb e => ?_⟩
  rcases Nat.lt_trichotomy a b with l | l | l
  · exact absurd e (key a b l (by omega))
  · exact l
  · exact absurd e.symm (key b a l (by omega))
theorem per_of_rho {x : Int} {L : Nat} (h : Rho f x 0 L) : Per f L x := by
  refine ⟨h.pos, ?_, fun d d1 d0 e => ?_⟩
  · have := h.ret
    rw [Nat.zero_add] at this
    exact this
  · have := h.one d 0 (by omega) (by have := h.pos; omega) e
    omega
theorem Rho.per (h : Rho f s j c) {k : Nat} (hk : j ≤ k) : Per f c (itr f k s) := by
  have h0 := h.pos
  obtain ⟨i, i1, i2, i3⟩ := cyc_in (f := f) (n := j + c) (j := j) (x := s) (by omega) h.ret k hk
  rw [i3]
  have := walk_cyc h.nd (by omega) h.ret i1 i2
  rw [show j + c - j = c by omega] at this
  exact this
theorem Rho.shift (h : Rho f s j c) (k : Nat) : Rho f (itr f k s) (j - k) c := by
  by_cases l : j ≤ k
  · rw [show j - k = 0 by omega]
    exact rho_of_per (h.per l)
  · refine ⟨h.pos, ?_, fun a b ha hb e => ?_⟩
    · rw [← itr_add, ← itr_add, show j - k + c + k = j + c by omega, show j - k + k = j by omega]
      exact h.ret
    · rw [← itr_add, ← itr_add] at e
      have := h.one _ _ (by omega) (by omega) e
      omega
theorem Rho.mod (h : Rho f s j c) {k : Nat} (hk : j ≤ k) : itr f k s = itr f (j + (k - j) % c) s := by
  have h0 := h.pos
  induction k using Nat.strongRecOn with
  | ind k ih =>
    by_cases l : k - j < c
    · rw [Nat.mod_eq_of_lt l, show j + (k - j) = k by omega]
    · have e := ih (k - c) (by omega) (by omega)
      rw [Nat.mod_eq_sub_mod (by omega), show k - j - c = k - c - j by omega, ← e]
      have := cyc_step (f := f) (n := j + c) (j := j) (x := s) (by omega) h.ret (i := k - c) (by omega)
      rw [show k - c + (j + c - j) = k by omega] at this
      exact this
end
/-! ### the walk from a start -/
theorem rnd_rho {t p m s : Int} (m0 : 0 < m) (s0 : 0 ≤ s) (s1 : s < m) : ∃ j c : Nat, Rho (stp t p m) s j c ∧ j + c ≤ m.toNat ∧ rndW t p m s = (orb (stp t p m) (j + c) s, itr (stp t p m) (j + c) s) ∧ rndT t p m s = j ∧ rndL t p m s = c := by
  obtain ⟨n, hn, ew⟩ := wk_form (stp t p m) (m.toNat + 1) [] s
  have W := wk_good (t := t) (p := p) m0 (m.toNat + 1) [] s List.nodup_nil (fun x hx => by cases hx) ⟨s0, s1⟩ (by simp)
  rw [ew] at W
  obtain ⟨nd, rg, hy⟩ := W
  have nl := int_len nd rg
  rw [show (([] ++ orb (stp t p m) n s, itr (stp t p m) n s) : List Int × Int).1 = orb (stp t p m) n s from List.nil_append _, orb_len] at nl
  obtain ⟨jn, ej⟩ := orb_idx (f := stp t p m) (n := n) (x := s) (y := itr (stp t p m) n s) (by simpa using hy)
  generalize hj : (orb (stp t p m) n s).idxOf (itr (stp t p m) n s) = j at jn ej
  have eW : rndW t p m s = (orb (stp t p m) n s, itr (stp t p m) n s) := by
    unfold rndW
    rw [ew, List.nil_append]
  have eT : rndT t p m s = j := by
    unfold rndT
    rw [eW]
    exact congrArg Int.ofNat hj
  refine ⟨j, n - j, ⟨by omega, ?_, fun a b ha hb e => ?_⟩, by omega, ?_, eT, ?_⟩
  · rw [show j + (n - j) = n by omega]
    exact ej.symm
  · exact orb_inj nd (i := a) (j := b) (by omega) (by omega) e
  · rw [show j + (n - j) = n by omega]
    exact eW
  · unfold rndL
    rw [eT, eW]
    show ((orb (stp t p m) n s).length : Int) - j = _
    rw [orb_len]
    omega
theorem rho_rnd {t p m s : Int} {j c : Nat} (m0 : 0 < m) (s0 : 0 ≤ s) (s1 : s < m) (h : Rho (stp t p m) s j c) : rndT t p m s = j ∧ rndL t p m s = c ∧ rndW t p m s = (orb (stp t p m) (j + c) s, itr (stp t p m) (j + c) s) := by
  obtain ⟨i, d, g, _, e1, e2, e3⟩ := rnd_rho (t := t) (p := p) m0 s0 s1
  obtain ⟨rfl, rfl⟩ := h.uniq g
  exact ⟨e2, e3, e1⟩
theorem stV_in {t p m s : Int} {j c k : Nat} (m0 : 0 < m) (s0 : 0 ≤ s) (s1 : s < m) (h : Rho (stp t p m) s j c) (hk : k < j + c) : stV t p m s (itr (stp t p m) k s) = .int k := by
  obtain ⟨_, _, e⟩ := rho_rnd m0 s0 s1 h
  unfold stV
  rw [e]
  have hm : itr (stp t p m) k s ∈ orb (stp t p m) (j + c) s := orb_mem.mpr ⟨k, hk, rfl⟩
  show (if itr (stp t p m) k s ∈ orb (stp t p m) (j + c) s then V.int (((orb (stp t p m) (j + c) s).idxOf (itr (stp t p m) k s) : Nat) : Int) else .non) = _
  rw [if_pos hm]
  obtain ⟨h1, h2⟩ := orb_idx hm
  rw [h.one _ _ h1 hk h2]
theorem stV_out {t p m s x : Int} {j c : Nat} (m0 : 0 < m) (s0 : 0 ≤ s) (s1 : s < m) (h : Rho (stp t p m) s j c) (hx : ∀ k, k < j + c → itr (stp t p m) k s ≠ x) : stV t p m s x = .non := by
  obtain ⟨_, _, e⟩ := rho_rnd m0 s0 s1 h
  unfold stV
  rw [e]
  refine if_neg fun z => ?_
  obtain ⟨k, k1, k2⟩ := orb_mem.mp z
  exact hx k k1 k2
theorem itr_ahd {t p m : Int} {x : Int} (x0 : 0 ≤ x) (x1 : x < m) : ∀ n, itr (stp t p m) n x = ahd t p m n x
  | 0 => by
    unfold ahd
    show x = (t ^ 0 * x + p * 0) % m
    rw [Int.pow_zero, Int.one_mul, Int.mul_zero, Int.add_zero, Int.emod_eq_of_lt x0 x1]
  | n + 1 => by
    show stp t p m (itr (stp t p m) n x) = _
    rw [itr_ahd x0 x1 n, ahd_add t p m n 1]
    generalize ahd t p m n x = y
    unfold ahd stp
    have g1 : geo t 1 = 1 := by show (0 : Int) + t ^ 0 = 1; rw [Int.pow_zero]; rfl
    rw [g1, Int.pow_one, Int.mul_one]
/-! ### each number of rounds goes into its numbers -/
theorem cover {t p m : Int} (m0 : 0 < m) : ∀ l : List Int, Rng m l → ∃ ws, ws.Nodup ∧ Rng m ws ∧ Fcl (stp t p m) ws ∧ (∀ x ∈ l, x ∈ ws) ∧ ∀ L, L ∣ pcnt (stp t p m) ws L
  | [], _ => ⟨[], List.nodup_nil, (fun x hx => by cases hx), (fun x hx => by cases hx), (fun x hx => by cases hx), fun L => ⟨0, by show 0 = L * 0; omega⟩⟩
  | x :: l, h => by
    obtain ⟨ws, nd, rg, fc, cov, dv⟩ := cover (t := t) (p := p) m0 l fun y hy => h y (List.mem_cons_of_mem _ hy)
    have xr := h x List.mem_cons_self
    have W := wk_good (t := t) (p := p) m0 (m.toNat + 1) ws x nd rg xr (by omega)
    obtain ⟨n, hn, ew⟩ := wk_form (stp t p m) (m.toNat + 1) ws x
    rw [ew] at W
    obtain ⟨nd2, rg2, hy⟩ := W
    have nd2' : (ws ++ orb (stp t p m) n x).Nodup := nd2
    have hy' : itr (stp t p m) n x ∈ ws ++ orb (stp t p m) n x := hy
    refine ⟨ws ++ orb (stp t p m) n x, nd2, rg2, fcl_walk fc hy', fun y hym => ?_, fun L => ?_⟩
    · rcases List.mem_cons.mp hym with e | e
      · rw [e]
        cases n with
        | zero => exact hy'
        | succ n => exact List.mem_append_right _ (orb_mem.mpr ⟨0, by omega, rfl⟩)
      · exact List.mem_append_left _ (cov y e)
    · rcases List.mem_append.mp hy' with c | c
      · rw [pcnt_old nd2' fc c L]
        exact dv L
      · obtain ⟨i, hi, e⟩ := orb_mem.mp c
        rw [pcnt_new nd2' hi e.symm L]
        refine Nat.dvd_add (dv L) ?_
        by_cases z : L = n - i
        · rw [if_pos z, z]
          exact Nat.dvd_refl _
        · rw [if_neg z]
          exact Nat.dvd_zero _
theorem nper_dvd {t p m : Int} (m0 : 0 < m) (L : Nat) : L ∣ Nper (stp t p m) m L := by
  obtain ⟨ws, nd, rg, fc, cov, dv⟩ := cover (t := t) (p := p) m0 (alls m) fun x hx => alls_mem.mp hx
  rw [← nper_of nd rg (fun x x0 x1 _ => cov x (alls_mem.mpr ⟨x0, x1⟩)) L]
  exact dv L
/-! ### all numbers of rounds -/
open Classical in
noncomputable def Pall (f : Int → Int) (m : Int) : Nat := (alls m).countP fun x => decide (∃ L, Per f L x)
open Classical in
theorem pcnt_sum {f : Int → Int} {m : Int} : ∀ {zs : List (Int × Int)}, zs.Pairwise (fun y z => y.1 < z.1) → (∀ z ∈ zs, 0 ≤ z.1) → (zs.map fun z => ((Nper f m z.1.toNat : Nat) : Int)).sum = (((alls m).countP fun x => decide (∃ z ∈ zs, Per f z.1.toNat x) : Nat) : Int)
  | [], _, _ => by
    rw [List.countP_eq_zero.mpr]
    · rfl
    · intro x _
      simp
  | z :: zs, up, h0 => by
    rw [List.pairwise_cons] at up
    have ih := pcnt_sum (f := f) (m := m) up.2 fun y hy => h0 y (List.mem_cons_of_mem _ hy)
    rw [List.map_cons, List.sum_cons, ih]
    unfold Nper pcnt
    generalize alls m = l
    induction l with
    | nil => rfl
    | cons x l il =>
      rw [List.countP_cons, List.countP_cons, List.countP_cons]
      have e : (if decide (∃ y, y ∈ z :: zs ∧ Per f y.1.toNat x) = true then 1 else 0) = (if decide (Per f z.1.toNat x) = true then 1 else 0) + (if decide (∃ y, y ∈ zs ∧ Per f y.1.toNat x) = true then 1 else 0 : Nat) := by
        by_cases a : Per f z.1.toNat x
        · have b : ¬ ∃ y, y ∈ zs ∧ Per f y.1.toNat x := fun ⟨y, hy, hp⟩ => by
            have := per_uniq a hp
            have := up.1 y hy
            have := h0 z List.mem_cons_self
            have := h0 y (List.mem_cons_of_mem _ hy)
            omega
          have i1 : (if decide (Per f z.1.toNat x) = true then 1 else 0 : Nat) = 1 := if_pos (decide_eq_true a)
          have i2 : (if decide (∃ y, y ∈ zs ∧ Per f y.1.toNat x) = true then 1 else 0 : Nat) = 0 := if_neg fun k => b (of_decide_eq_true k)
          have i3 : (if decide (∃ y, y ∈ z :: zs ∧ Per f y.1.toNat x) = true then 1 else 0 : Nat) = 1 := if_pos (decide_eq_true ⟨z, List.mem_cons_self, a⟩)
          rw [i1, i2, i3]
        · have i1 : (if decide (Per f z.1.toNat x) = true then 1 else 0 : Nat) = 0 := if_neg fun k => a (of_decide_eq_true k)
          by_cases b : ∃ y, y ∈ zs ∧ Per f y.1.toNat x
          · have i2 : (if decide (∃ y, y ∈ zs ∧ Per f y.1.toNat x) = true then 1 else 0 : Nat) = 1 := if_pos (decide_eq_true b)
            have i3 : (if decide (∃ y, y ∈ z :: zs ∧ Per f y.1.toNat x) = true then 1 else 0 : Nat) = 1 := by
              obtain ⟨y, hy, hp⟩ := b
              exact if_pos (decide_eq_true ⟨y, List.mem_cons_of_mem _ hy, hp⟩)
            rw [i1, i2, i3]
          · have i2 : (if decide (∃ y, y ∈ zs ∧ Per f y.1.toNat x) = true then 1 else 0 : Nat) = 0 := if_neg fun k => b (of_decide_eq_true k)
            have i3 : (if decide (∃ y, y ∈ z :: zs ∧ Per f y.1.toNat x) = true then 1 else 0 : Nat) = 0 := if_neg fun k => by
              obtain ⟨y, hy, hp⟩ := of_decide_eq_true k
              rcases List.mem_cons.mp hy with e | e
              · rw [e] at hp
                exact a hp
              · exact b ⟨y, e, hp⟩
            rw [i1, i2, i3]
      rw [e]
      omega
open Classical in
theorem Rds.sum {t p m : Int} {zs : List (Int × Int)} (m0 : 0 < m) (h : Rds (stp t p m) m zs) : (zs.map fun z => z.1 * z.2).sum = ((Pall (stp t p m) m : Nat) : Int) := by
  have key : ∀ z ∈ zs, 0 ≤ z.1 ∧ z.1 * z.2 = ((Nper (stp t p m) m z.1.toNat : Nat) : Int) := fun z hz => by
    obtain ⟨n, e1, e2, e3⟩ := (h.mem z.1 z.2).mp hz
    rw [e1, e3]
    refine ⟨by omega, ?_⟩
    unfold Crnd
    rw [show ((n : Int)).toNat = n by omega, ← Int.natCast_mul, Nat.mul_div_cancel' (nper_dvd m0 n)]
  rw [List.map_congr_left (fun z hz => (key z hz).2), pcnt_sum h.up fun z hz => (key z hz).1]
  unfold Pall
  refine congrArg Int.ofNat (List.countP_congr fun x hx => ?_)
  simp only [decide_eq_true_eq]
  constructor
  · rintro ⟨z, hz, hp⟩
    exact ⟨_, hp⟩
  · rintro ⟨L, hp⟩
    refine ⟨((L : Int), Crnd (stp t p m) m L), (h.mem _ _).mpr ⟨L, rfl, pcnt_pos.mpr ⟨x, hx, hp⟩, rfl⟩, ?_⟩
    rw [show ((L : Int)).toNat = L by omega]
    exact hp
/-- what m steps lead to is what comes again -/
theorem far_per {t p m x : Int} (m0 : 0 < m) : (0 ≤ x ∧ x < m ∧ ∃ L, Per (stp t p m) L x) ↔ ∃ y, 0 ≤ y ∧ y < m ∧ itr (stp t p m) m.toNat y = x := by
  constructor
  · rintro ⟨x0, x1, L, h⟩
    refine ⟨itr (stp t p m) (L * m.toNat - m.toNat) x, (itr_rng m0 ⟨x0, x1⟩ _).1, (itr_rng m0 ⟨x0, x1⟩ _).2, ?_⟩
    have le : m.toNat ≤ L * m.toNat := Nat.le_mul_of_pos_left _ h.1
    rw [← itr_add, show m.toNat + (L * m.toNat - m.toNat) = L * m.toNat by omega]
    exact itr_fix h.2.1 _
  · rintro ⟨y, y0, y1, rfl⟩
    have r := itr_rng (t := t) (p := p) m0 ⟨y0, y1⟩ m.toNat
    obtain ⟨j, c, h, hl, _⟩ := rnd_rho (t := t) (p := p) m0 y0 y1
    exact ⟨r.1, r.2, c, h.per (by omega)⟩
open Classical in
theorem pall_len {t p m : Int} (m0 : 0 < m) {ks : List Int} (nd : ks.Nodup) (h : ∀ k, k ∈ ks ↔ ∃ y, 0 ≤ y ∧ y < m ∧ itr (stp t p m) m.toNat y = k) : ks.length = Pall (stp t p m) m := by
  unfold Pall
  rw [List.countP_eq_length_filter]
  refine List.Perm.length_eq ((List.perm_ext_iff_of_nodup nd ((alls_nodup m).filter _)).mpr fun x => ?_)
  rw [h x, ← far_per m0, List.mem_filter, alls_mem]
  simp only [decide_eq_true_eq]
  exact ⟨fun z => ⟨⟨z.1, z.2.1⟩, z.2.2⟩, fun z => ⟨z.1.1, z.1.2, z.2⟩⟩
/-! ### one round of all -/
theorem full_per {t p m : Int} (m0 : 0 < m) : Full t p m ↔ Per (stp t p m) m.toNat 0 := by
  have e := fun n => itr_ahd (t := t) (p := p) (m := m) (x := 0) (Int.le_refl 0) m0 n
  unfold Full Per
  constructor
  · rintro ⟨h1, h2⟩
    refine ⟨by omega, by rw [e, ahd_zero]; exact h2, fun j j1 j0 => ?_⟩
    rw [e, ahd_zero]
    exact h1 j j0 (by omega)
  · rintro ⟨h0, h1, h2⟩
    rw [e, ahd_zero] at h1
    refine ⟨fun n n0 n1 => ?_, h1⟩
    have := h2 n (by omega) n0
    rw [e, ahd_zero] at this
    exact this
theorem per_all {t p m x : Int} (m0 : 0 < m) (x0 : 0 ≤ x) (x1 : x < m) (h : Per (stp t p m) m.toNat x) {y : Int} (y0 : 0 ≤ y) (y1 : y < m) : Per (stp t p m) m.toNat y := by
  have r := rho_of_per h
  have nd : (orb (stp t p m) m.toNat x).Nodup := by
    have := r.nd
    rw [Nat.zero_add, List.nil_append] at this
    exact this
  have hm : y ∈ orb (stp t p m) m.toNat x := sub_eq nd (k := alls m) (fun z hz => by
    obtain ⟨i, _, rfl⟩ := orb_mem.mp hz
    exact alls_mem.mpr (itr_rng m0 ⟨x0, x1⟩ i)) (by rw [orb_len, alls_len]) (alls_mem.mpr ⟨y0, y1⟩)
  obtain ⟨i, _, rfl⟩ := orb_mem.mp hm
  exact r.per (Nat.zero_le i)
theorem one_rds {t p m : Int} {zs : List (Int × Int)} (m0 : 0 < m) (h : Rds (stp t p m) m zs) : Cls t p m ↔ zs = [(m, 1)] := by
  rw [← full_iff m0, full_per m0]
  constructor
  · intro hp
    have all : ∀ y, 0 ≤ y → y < m → Per (stp t p m) m.toNat y := fun y y0 y1 => per_all m0 (Int.le_refl 0) m0 hp y0 y1
    have e : ∀ L, Nper (stp t p m) m L = if L = m.toNat then m.toNat else 0 := fun L => by
      rw [nper_g (fun _ => m.toNat) (fun x hx => all x (alls_mem.mp hx).1 (alls_mem.mp hx).2) L]
      by_cases c : L = m.toNat
      · rw [if_pos c, List.countP_eq_length.mpr (fun x _ => decide_eq_true c.symm), alls_len]
      · rw [if_neg c, List.countP_eq_zero]
        intro x _
        simp only [decide_eq_true_eq]
        exact fun z => c z.symm
    have em : ((m.toNat : Nat) : Int) = m := by omega
    refine h.uniq ⟨by simp, fun L c => ?_⟩
    have ec : Crnd (stp t p m) m m.toNat = 1 := by
      unfold Crnd
      rw [e, if_pos rfl, Nat.div_self (by omega)]
      rfl
    constructor
    · intro hz
      obtain ⟨rfl, rfl⟩ := Prod.mk.inj (List.mem_singleton.mp hz)
      exact ⟨L.toNat, em.symm, by rw [e, if_pos rfl]; omega, ec.symm⟩
    · rintro ⟨n, rfl, hn, rfl⟩
      rw [e] at hn
      by_cases c : n = m.toNat
      · rw [c, ec, em]
        exact List.mem_singleton.mpr rfl
      · rw [if_neg c] at hn
        omega
  · rintro rfl
    obtain ⟨n, e1, e2, _⟩ := (h.mem m 1).mp (List.mem_singleton.mpr rfl)
    obtain ⟨x, hx, hp⟩ := pcnt_pos.mp e2
    obtain ⟨x0, x1⟩ := alls_mem.mp hx
    rw [show n = m.toNat by omega] at hp
    exact per_all m0 x0 x1 hp (Int.le_refl 0) m0
theorem rds_len {t p m : Int} {zs : List (Int × Int)} (h : Rds (stp t p m) m zs) {c : Nat} {x : Int} (x0 : 0 ≤ x) (x1 : x < m) (hp : Per (stp t p m) c x) : (c : Int) ∈ zs.map (·.1) :=
  List.mem_map.mpr ⟨_, (h.mem c _).mpr ⟨c, rfl, pcnt_pos.mpr ⟨x, alls_mem.mpr ⟨x0, x1⟩, hp⟩, rfl⟩, rfl⟩
/-! ### pairs that are alike -/
theorem eqv_pairs : ∀ {zs ys : List (Int × Int)}, PyData.eqvAll (zs.map fun z => .tuple [.int z.1, .int z.2]) (ys.map fun z => .tuple [.int z.1, .int z.2]) = true → zs = ys
  | [], [], _ => rfl
  | [], y :: ys, h => by simp [PyData.eqvAll] at h
  | z :: zs, [], h => by simp [PyData.eqvAll] at h
  | z :: zs, y :: ys, h => by
    simp [PyData.eqvAll, PyData.eqv] at h
    have e2 : zs = ys := eqv_pairs h.2
    rw [e2]
    refine congrArg (· :: ys) (Prod.ext ?_ ?_)
    · exact h.1.1
    · exact h.1.2
theorem eqv_dp {zs ys : List (Int × Int)} : PyData.eqv (dPairs zs) (dPairs ys) = true ↔ zs = ys := by
  constructor
  · intro h
    unfold dPairs at h
    simp only [PyData.eqv] at h
    exact eqv_pairs h
  · rintro rfl
    exact eqv_self (shp_pairs _)
end Tw

/-! len(set), defs of four arguments, pairs in comprehensions; promises of law 10. -/
namespace Tw
open PySem PySem.Spec PyProof.Rows L2
/-- len(a set of ints) -/
def rLenSet (w : World) : List V → Hp → VK → Prop := fun vs H Q => ∃ (a : Addr) (S : Int → Bool) (n : Nat), vs = [V.ref a] ∧ H a = some (SetO w a S n) ∧ ∀ ks : List Int, ks.Nodup → (∀ k : Int, k ∈ ks ↔ S k = true) → Q (.int ks.length) H
theorem cr_lenSet {X : Cx} : CallR X (.builtin "len") (rLenSet X.w) := by
  intro pins s σ H vs us Q I r h
  obtain ⟨a, S, n, rfl, ha, q⟩ := h
  obtain ⟨o, es, ep, t, ho, hex, hd, g, nd, hm, hb, hf, hn, hr, hl⟩ := setO_get I ha
  rw [Vals.ref1 r]
  have lt : es.size < 4096 := hb
  have e : (es.toList.map keyOf).length = es.size := by rw [List.length_map, Array.length_toList]
  refine call_len_set ho hex hd hf (by omega) ⟨.int es.size, H, I.tok _, ⟨_, rfl⟩, ?_⟩
  rw [← e]
  exact q _ nd fun k => (hm k).symm
section
variable {P : Program} {w : World} {K : PySem.W.Frag} {mg : Str → Option Value} {base : Heap} {x : Str} {st : Stmt} {N : List Str} {k : Nat}
theorem Top.ok4 {a b c d : Str} {p : V → V → V → V → Hp → VK → XK → Prop} (D : Top K mg x st [a, b, c, d]) (S : FnScope N [a, b, c, d] (defScope st))
    (hbody : ∀ (f : Addr) (cdv : Value) (A : Around) (outer : List Env) (s : Shared) (H : Hp) (v1 v2 v3 v4 : V) (Q : VK) (E : XK), Room k (A.deeper (envOfC x (defScope st) s.heap.objs.size f cdv)) → p v1 v2 v3 v4 H Q E →
      ∃ t, PSs (cxOf CX0 P w K mg base N x (defScope st) f cdv A outer s H E).nox (defBody st) t ∧ t { nx := fun _ H' => Q .non H', rt := Q } (start N [v1, v2, v3, v4]) H) : Has P w K mg base CX0 (k + 1) x [a, b, c, d] (sp4 p) :=
  D.ok S (fun vs H Q E h => by obtain ⟨_, _, _, _, rfl, _⟩ := h; rfl) (fun f cdv A outer s H vs Q E hr h => by obtain ⟨v1, v2, v3, v4, rfl, h⟩ := h; exact hbody f cdv A outer s H v1 v2 v3 v4 Q E hr h)
end
def pStart10 (K : PySem.W.Frag) : V → V → V → V → Hp → VK → XK → Prop := fun a b c e H Q _ => ∃ (d : Addr) (n : Nat) (r : Addr) (t p m s : Int) (q : Addr) (ps : List (Addr × (Int × Int))), a = .ref d ∧ b = .ref r ∧ c = .int s ∧ e = .ref q ∧ Deck H d n ∧ n + 2 ≤ 100000000 ∧ H r = some (.tup [.int t, .int p, .int m]) ∧ Rule t p m ∧ m ≤ 2000 ∧ 0 ≤ s ∧ s < m ∧
  TupP H q ps ∧ Rds (stp t p m) m (ps.map (·.2)) ∧ ∀ H', But d H H' → Deck H' d (n + 2) → Q (.bl true) H'
end Tw
namespace Tw
open PySem PySem.Spec PyProof.Rows L2
theorem per_le {t p m x : Int} {L : Nat} (m0 : 0 < m) (x0 : 0 ≤ x) (x1 : x < m) (h : Per (stp t p m) L x) : L ≤ m.toNat := by
  have nd := (rho_of_per h).nd
  rw [Nat.zero_add, List.nil_append] at nd
  have := int_len nd fun z hz => by
    obtain ⟨i, _, rfl⟩ := orb_mem.mp hz
    exact itr_rng m0 ⟨x0, x1⟩ i
  rw [orb_len] at this
  exact this
theorem rds_short {t p m : Int} {zs : List (Int × Int)} (m0 : 0 < m) (h : Rds (stp t p m) m zs) : zs.length ≤ (m + 1).toNat := by
  have nd : (zs.map (·.1)).Nodup := by
    refine up_nodup ?_
    rw [List.pairwise_map]
    exact h.up
  have := int_len (m := m + 1) nd fun L hL => by
    obtain ⟨z, hz, rfl⟩ := List.mem_map.mp hL
    obtain ⟨n, e1, e2, _⟩ := (h.mem z.1 z.2).mp hz
    obtain ⟨x, hx, hp⟩ := pcnt_pos.mp e2
    obtain ⟨x0, x1⟩ := alls_mem.mp hx
    have := per_le m0 x0 x1 hp
    rw [e1]
    omega
  rw [List.length_map] at this
  exact this
end Tw
namespace Tw
open PySem PySem.Spec PyProof.Rows L2
theorem TupP.but {H H' : Hp} {q d : Addr} {n : Nat} {ps : List (Addr × (Int × Int))} (h : TupP H q ps) (D : Deck H d n) (b : But d H H') : TupP H' q ps :=
  ⟨b _ _ (D.ne_tup h.1) h.1, fun z hz => b _ _ (D.ne_tup (h.2 z hz)) (h.2 z hz)⟩
theorem rds_bd {t p m : Int} {zs : List (Int × Int)} (m0 : 0 < m) (h : Rds (stp t p m) m zs) {z : Int × Int} (hz : z ∈ zs) : (0 ≤ z.1 ∧ z.1 ≤ m) ∧ 0 ≤ z.2 ∧ z.2 ≤ m := by
  obtain ⟨n, e1, e2, e3⟩ := (h.mem z.1 z.2).mp hz
  obtain ⟨x, hx, hp⟩ := pcnt_pos.mp e2
  obtain ⟨x0, x1⟩ := alls_mem.mp hx
  have l1 := per_le m0 x0 x1 hp
  have l2 : Nper (stp t p m) m n ≤ (alls m).length := List.countP_le_length
  have l3 := Nat.div_le_self (Nper (stp t p m) m n) n
  rw [alls_len] at l2
  rw [e1, e3]
  unfold Crnd
  generalize Nper (stp t p m) m n / n = qq at l3 ⊢
  omega
theorem one_bool {t p m : Int} {zs : List (Int × Int)} {b : Bool} (m0 : 0 < m) (h : Rds (stp t p m) m zs) (hb : b = true ↔ Cls t p m) : b = PyData.eqv (dPairs zs) (dPairs [(m, 1)]) :=
  Bool.eq_iff_iff.mpr (hb.trans ((one_rds m0 h).trans eqv_dp.symm))
end Tw


namespace Tw
open PySem PySem.Spec PyProof.Rows L2
def topS (i : Nat) : Stmt := PySem.Challenge.pw_timesrow_k10_whole_rounds.main.body.getD i (.Pass ⟨0, 0, 0, 0⟩)
abbrev s_mix : Stmt := topS 24
theorem sc_mix : FnScope ["cell", "k", "number"] ["cell", "k"] (defScope s_mix) := ⟨rfl, rfl, rfl, by decide +kernel, rfl, by decide +kernel, by decide +kernel⟩
abbrev s_deck : Stmt := topS 25
theorem sc_deck : FnScope ["script"] ["script"] (defScope s_deck) := ⟨rfl, rfl, rfl, by decide +kernel, rfl, by decide +kernel, by decide +kernel⟩
abbrev s_next : Stmt := topS 26
theorem sc_next : FnScope ["deck", "many", "cell", "found"] ["deck", "many"] (defScope s_next) := ⟨rfl, rfl, rfl, by decide +kernel, rfl, by decide +kernel, by decide +kernel⟩
abbrev s_great : Stmt := topS 27
theorem sc_great : FnScope ["deck", "most"] ["deck", "most"] (defScope s_great) := ⟨rfl, rfl, rfl, by decide +kernel, rfl, by decide +kernel, by decide +kernel⟩
section
variable {P : Program} {w : World} {K : PySem.W.Frag} {mg : Str → Option Value} {base : Heap}
theorem ok_mix (D : Top K mg "_law_mix" s_mix ["cell", "k"]) : Has P w K mg base CX0 1 "_law_mix" ["cell", "k"] (sp2 pMix) := by
  refine D.ok2 sc_mix (fun f cdv A outer s H v1 v2 Q E hr h => ?_)
  obtain ⟨c, k, rfl, rfl, k0, k1, q⟩ := h
  refine ⟨_, (pss_cons (ps_set (i := 2) sc_mix.nd rfl (.inl rfl) (pe_op op_add (pe_op op_mod (pv 0) pe_int) (pe_op op_mulB (pe_op op_mulB pe_int (pv 1)) (pv 1))))
 (pss_cons (ps_set (i := 2) sc_mix.nd rfl (.inl rfl) (pe_op op_mod (pe_op op_add (pv 2) (pe_op op_mulB pe_int (pv 1))) pe_int))
 (pss_cons (ps_set (i := 2) sc_mix.nd rfl (.inl rfl) (pe_op op_mod (pe_op op_mulB (pv 2) (pv 2)) pe_int))
 (pss_one (ps_ret (pe_op op_fdivB (pe_op op_mod (pe_op op_mulB (pv 2) (pe_op op_add (pv 2) pe_int)) pe_int) pe_int)))))), ?_⟩
  have b1 := mod_bd c (b := 2147483629) (by decide)
  have m1 := mul_bd k0 (show k ≤ 1000000000 by omega) k0 (show k ≤ 1000000000 by omega)
  refine ⟨_, rfl, _, _, rfl, rfl, by show (0:Int) < _; decide, _, rfl, _, _, rfl, rfl, ⟨by unfold Big; omega, by unfold Big; omega⟩, _, rfl, _, _, rfl, rfl, ⟨by unfold Big; omega, by unfold Big; omega⟩, _, _, rfl, rfl, ?_⟩
  refine ⟨_, rfl, _, rfl, _, _, rfl, rfl, ⟨by unfold Big; omega, by unfold Big; omega⟩, _, _, rfl, rfl, _, _, rfl, rfl, by show (0:Int) < _; decide, ?_⟩
  generalize c % 2147483629 + 1000003 * k * k + 7919 * k = z1
  have b2 := mod_bd z1 (b := 2147483629) (by decide)
  refine ⟨_, rfl, _, rfl, _, _, rfl, rfl, ⟨by unfold Big; omega, by unfold Big; omega⟩, _, _, rfl, rfl, by show (0:Int) < _; decide, ?_⟩
  generalize z1 % 2147483629 * (z1 % 2147483629) = z2
  have b3 := mod_bd z2 (b := 2147483587) (by decide)
  refine ⟨_, rfl, _, rfl, _, _, rfl, rfl, _, _, rfl, rfl, ⟨by unfold Big; omega, by unfold Big; omega⟩, _, _, rfl, rfl, by show (0:Int) < _; decide, _, _, rfl, rfl, ⟨by decide, by decide⟩, ?_⟩
  generalize z2 % 2147483587 * (z2 % 2147483587 + 40961) = z3
  have b4 := mod_bd z3 (b := 2147483563) (by decide)
  exact q _ (by omega)
theorem ok_deck (D : Top K mg "_law_deck" s_deck ["script"]) (z_sum : mg "sum" = none) : Has P w K mg base CX0 1 "_law_deck" ["script"] (sp1 (pDeck K)) := by
  refine D.ok1 sc_deck (fun f cdv A outer s H v1 Q E hr h => ?_)
  obtain ⟨sa, xs, rfl, hS, q⟩ := h
  refine ⟨_, (pss_one (ps_ret (pe_lst (pa_cons (pe_slice sl_list (pv 0) po_none (po_some pe_int)) (pa_cons pe_int (pa_cons pe_int (pa_cons pe_int (pa_cons (pe_callB (id := "sum") (cr_sum rfl) (by rfl) z_sum (by decide +kernel) (pa_cons (pe_slice sl_list (pv 0) po_none (po_some pe_int)) pa_nil)) pa_nil)))))))), ?_⟩
  have ec : cutV (xs.map V.int) none (some 63) = (xs.take 63).map V.int := by
    rw [List.map_take]
    exact cut_take _ 63
  refine ⟨_, rfl, _, rfl, sa, _, rfl, hS, fun c nc => ?_⟩
  have s1 := same_new (o := .lst (cutV (xs.map V.int) none (some 63))) nc
  refine ⟨_, rfl, _, rfl, sa, _, rfl, s1.seq hS, fun c2 nc2 => ?_⟩
  have s2 := same_new (o := .lst (cutV (xs.map V.int) none (some 63))) nc2
  refine ⟨c2, xs.take 63, rfl, ?_, ?_⟩
  · rw [ec]
    exact SqL.of upd_same
  · refine ⟨by show 5 ≤ sizeLine; decide, fun d nd => ?_⟩
    have s3 := same_new (o := .lst [.ref c, .int 0, .int 0, .int 0, .int (xs.take 63).sum]) nd
    have hc : (upd (upd H c (.lst (cutV (xs.map V.int) none (some 63)))) c2 (.lst (cutV (xs.map V.int) none (some 63)))) c = some (.lst ((xs.take 63).map V.int)) := by
      rw [← ec]
      exact s2 _ _ upd_same
    refine q _ d (s1.trans (s2.trans s3)) (s1.free (s2.free nd)) ⟨c, xs.take 63, 0, 0, 0, (xs.take 63).sum, upd_same, s3 _ _ hc, ne_of_none hc nd, ?_, by omega, by omega, by omega, by omega, by omega⟩
    rw [List.length_take]
    omega
theorem ok_next (D : Top K mg "_law_next" s_next ["deck", "many"]) (h_mix : Has P w K mg base CX0 1 "_law_mix" ["cell", "k"] (sp2 pMix)) (z_len : mg "len" = none) : Has P w K mg base CX0 2 "_law_next" ["deck", "many"] (sp2 (pNext 1)) := by
  refine D.ok2 sc_next (fun f cdv A outer s H v1 v2 Q E hr h => ?_)
  obtain ⟨d, n, m, rfl, rfl, m0, m1, hD, hn, q⟩ := h
  refine ⟨_, (C8.pss_cut (ps_if (PW.pt (pw_and (pt_cmpR op_eq (pe_ix ix_list (pv 0) pe_int (fun _ _ => rfl)) pe_int (nomark _)) (pw_and1 (pt_cmpR op_lt (pe_ix ix_list (pv 0) pe_int (fun _ _ => rfl)) (pe_callB (id := "len") call_len_seq (by rfl) z_len (by decide +kernel) (pa_cons (pe_ix ix_list (pv 0) pe_int (fun _ _ => rfl)) pa_nil)) (nomark _))))) (pss_cons (ps_set (i := 2) sc_next.nd rfl (.inl rfl) (pe_ix ix_list (pe_ix ix_list (pv 0) pe_int (fun _ _ => rfl)) (pe_ix ix_list (pv 0) pe_int (fun _ _ => rfl)) (fun _ _ => rfl)))
 (pss_cons (ps_asg (pe_op op_add (pe_ix ix_list (pv 0) pe_int (fun _ _ => rfl)) pe_int) (pg_sub (pv 0) pe_int set_list))
 (pss_cons (ps_if (pt_cmpR op_lt (pv 2) (pe_op op_pow pe_int pe_int) (nomark _)) (pss_one (ps_ret (pe_op op_mod (pe_own h_mix (hr.mono (by decide)) pass0 (pa_cons (pv 2) (pa_cons (pe_ix ix_list (pv 0) pe_int (fun _ _ => rfl)) pa_nil))) (pv 1)))) pss_nil)
 (pss_one (ps_asg (pv 2) (pg_sub (pv 0) pe_int set_list)))))) pss_nil)
 (pss_cons (ps_if (pt_cmpR op_gt (pe_ix ix_list (pv 0) pe_int (fun _ _ => rfl)) pe_int (nomark _)) (pss_cons (ps_set (i := 3) sc_next.nd rfl (.inl rfl) (pe_op op_mod (pe_ix ix_list (pv 0) pe_int (fun _ _ => rfl)) (pv 1)))
 (pss_cons (ps_asg (pe_op op_fdivB (pe_ix ix_list (pv 0) pe_int (fun _ _ => rfl)) (pv 1)) (pg_sub (pv 0) pe_int set_list))
 (pss_one (ps_ret (pv 3))))) pss_nil)
 (pss_cons (ps_asg (pe_op op_add (pe_ix ix_list (pv 0) pe_int (fun _ _ => rfl)) pe_int) (pg_sub (pv 0) pe_int set_list))
 (pss_one (ps_ret (pe_op op_mod (pe_own h_mix (hr.mono (by decide)) pass0 (pa_cons (pe_ix ix_list (pv 0) pe_int (fun _ _ => rfl)) (pa_cons (pe_op op_add (pe_ix ix_list (pv 0) pe_int (fun _ _ => rfl)) pe_int) pa_nil))) (pv 1))))))), ?_⟩
  obtain ⟨c, xs, i, r, k, t, hd, hc, ncd, hx, i0, i1, r0, k0, k1⟩ := hD
  -- what follows the first if: the deck with its own i and r
  refine ⟨fun σ' H' => ∃ (y : Option V) (i' r' : Int), σ' = [some (.ref d), some (.int m), y, none] ∧ H' = upd H d (.lst [.ref c, .int i', .int r', .int k, .int t]) ∧ 0 ≤ i' ∧ i' ≤ (xs.length : Int) ∧ 0 ≤ r', ?_, ?_⟩
  · have self : upd H d (.lst [.ref c, .int i, .int r, .int k, .int t]) = H := by
      funext b
      by_cases e : b = d
      · rw [e, upd_same, hd]
      · rw [upd_ne e]
    refine ⟨_, rfl, d, _, 2, .int r, rfl, rfl, SqL.of hd, rfl, rfl, _, rfl, ifI (fun er => ?_) (fun er => ?_)⟩
    · refine ⟨_, rfl, d, _, 1, .int i, rfl, rfl, SqL.of hd, rfl, _, rfl, d, _, 0, .ref c, rfl, rfl, SqL.of hd, rfl, c, _, rfl, .inl (SqL.of hc), _, _, rfl, rfl, _, rfl, ifD (fun il => ?_) (fun il => ?_)⟩
      · rw [List.length_map] at il
        obtain ⟨j, rfl⟩ := Int.eq_ofNat_of_zero_le i0
        have jl : j < xs.length := by omega
        have ej : (xs.map V.int)[j]? = some (.int xs[j]) := by rw [List.getElem?_map, List.getElem?_eq_getElem jl]; rfl
        refine ⟨_, rfl, d, _, 0, .ref c, rfl, rfl, SqL.of hd, rfl, _, rfl, d, _, 1, .int (j : Int), rfl, rfl, SqL.of hd, rfl, c, _, _, _, rfl, rfl, SqL.of hc, atI_nat ej, ?_⟩
        refine ⟨_, rfl, d, _, 1, .int (j : Int), rfl, rfl, SqL.of hd, rfl, _, _, rfl, rfl, _, rfl, d, _, 1, 1, rfl, rfl, hd, rfl, ?_⟩
        refine ⟨_, rfl, _, _, rfl, rfl, ⟨by decide, by decide, by decide⟩, _, _, rfl, rfl, _, rfl, ifD (fun cl => ?_) (fun cl => ?_)⟩
        · refine ⟨_, rfl, _, rfl, d, _, 1, .int ((j : Int) + 1), rfl, rfl, SqL.of upd_same, rfl, _, _, rfl, _, _, rfl, rfl, by omega, by omega, fun v v0 => ?_⟩
          refine ⟨_, rfl, _, _, rfl, rfl, m0, ?_⟩
          have bv := mod_bd v m0
          refine q _ _ (but_mut (But.refl d H) (fun c' hc => by obtain ⟨_, ec⟩ := hc; rw [hd] at ec; cases ec; exact ⟨_, rfl⟩)) ⟨c, xs, (j : Int) + 1, r, k, t, upd_same, ?_, ncd, hx, by omega, by omega, r0, k0, by omega⟩ bv.1 bv.2
          rw [upd_ne ncd]
          exact hc
        · refine ⟨_, rfl, _, rfl, d, _, 2, 2, rfl, rfl, upd_same, rfl, some (.int xs[j]), (j : Int) + 1, xs[j], rfl, ?_, by omega, by omega, ?_⟩
          · rw [upd_upd]
            rfl
          · have z : (10 : Int) ^ (18 : Int).toNat = 1000000000000000000 := by decide
            rw [z] at cl
            omega
      · exact ⟨none, i, r, rfl, self.symm, i0, i1, r0⟩
    · exact ⟨none, i, r, rfl, self.symm, i0, i1, r0⟩
  · rintro σ' H' ⟨y, i', r', rfl, rfl, i0', i1', r0'⟩
    refine ⟨_, rfl, d, _, 2, .int r', rfl, rfl, SqL.of upd_same, rfl, _, _, rfl, rfl, _, rfl, ifD (fun rp => ?_) (fun rp => ?_)⟩
    · refine ⟨_, rfl, d, _, 2, .int r', rfl, rfl, SqL.of upd_same, rfl, _, rfl, _, _, rfl, rfl, m0, ?_⟩
      refine ⟨_, rfl, d, _, 2, .int r', rfl, rfl, SqL.of upd_same, rfl, _, rfl, _, _, rfl, rfl, ⟨m0, m1⟩, _, rfl, d, _, 2, 2, rfl, rfl, upd_same, rfl, ?_⟩
      have bv := mod_bd r' m0
      refine ⟨_, rfl, q _ _ (but_mut (but_mut (But.refl d H) (fun c' hc => by obtain ⟨_, ec⟩ := hc; rw [hd] at ec; cases ec; exact ⟨_, rfl⟩)) (fun c' hc => by obtain ⟨_, ec⟩ := hc; rw [upd_same] at ec; cases ec; exact ⟨_, rfl⟩)) ⟨c, xs, i', r' / m, k, t, upd_same, ?_, ncd, hx, i0', i1', Int.ediv_nonneg r0' (by omega), k0, by omega⟩ bv.1 bv.2⟩
      rw [upd_ne ncd, upd_ne ncd]
      exact hc
    · refine ⟨_, rfl, d, _, 3, .int k, rfl, rfl, SqL.of upd_same, rfl, _, _, rfl, rfl, _, rfl, d, _, 3, 3, rfl, rfl, upd_same, rfl, ?_⟩
      refine ⟨_, rfl, d, _, 4, .int t, rfl, rfl, SqL.of upd_same, rfl, _, rfl, d, _, 3, .int (k + 1), rfl, rfl, SqL.of upd_same, rfl, _, _, rfl, rfl, _, _, rfl, _, _, rfl, rfl, by omega, by omega, fun v v0 => ?_⟩
      refine ⟨_, rfl, _, _, rfl, rfl, m0, ?_⟩
      have bv := mod_bd v m0
      refine q _ _ (but_mut (but_mut (But.refl d H) (fun c' hc => by obtain ⟨_, ec⟩ := hc; rw [hd] at ec; cases ec; exact ⟨_, rfl⟩)) (fun c' hc => by obtain ⟨_, ec⟩ := hc; rw [upd_same] at ec; cases ec; exact ⟨_, rfl⟩)) ⟨c, xs, i', r', k + 1, t, upd_same, ?_, ncd, hx, i0', i1', r0', by omega, by omega⟩ bv.1 bv.2
      rw [upd_ne ncd, upd_ne ncd]
      exact hc
theorem ok_great (D : Top K mg "_law_great" s_great ["deck", "most"]) (h_next : Has P w K mg base CX0 2 "_law_next" ["deck", "many"] (sp2 (pNext 1))) : Has P w K mg base CX0 3 "_law_great" ["deck", "most"] (sp2 (pNext 2)) := by
  refine D.ok2 sc_great (fun f cdv A outer s H v1 v2 Q E hr h => ?_)
  obtain ⟨d, n, m, rfl, rfl, m0, m1, hD, hn, q⟩ := h
  refine ⟨_, (pss_one (ps_ret (pe_op op_mod (pe_op op_add (pe_op op_mulB (pe_own h_next (hr.mono (by decide)) pass0 (pa_cons (pv 0) (pa_cons (pe_op op_pow pe_int pe_int) pa_nil))) (pe_op op_pow pe_int pe_int)) (pe_own h_next (hr.mono (by decide)) pass0 (pa_cons (pv 0) (pa_cons (pe_op op_pow pe_int pe_int) pa_nil)))) (pv 1)))), ?_⟩
  have z : (10 : Int) ^ (6 : Int).toNat = 1000000 := by decide
  refine ⟨_, rfl, _, _, rfl, rfl, ⟨by decide, by decide, by decide⟩, _, _, rfl, d, n, _, rfl, rfl, by decide, by decide, hD, by omega, fun H1 v B1 D1 v0 v1 => ?_⟩
  rw [z] at v1
  refine ⟨_, _, rfl, rfl, ⟨by decide, by decide, by decide⟩, _, _, rfl, rfl, ⟨by unfold Big; omega, show Big 1000000 from ⟨by decide, by decide⟩⟩, ?_⟩
  refine ⟨_, rfl, _, _, rfl, rfl, ⟨by decide, by decide, by decide⟩, _, _, rfl, d, n + 1, _, rfl, rfl, by decide, by decide, D1, by omega, fun H2 u B2 D2 u0 u1 => ?_⟩
  refine ⟨_, _, rfl, rfl, _, rfl, _, _, rfl, rfl, m0, ?_⟩
  have bv := mod_bd (v * 10 ^ (6 : Int).toNat + u) m0
  exact q _ _ (B1.trans B2) D2 bv.1 bv.2
end
end Tw


namespace Tw
open PySem PySem.Spec PyProof.Rows L2
abbrev s_bound : Stmt := topS 28
theorem sc_bound : FnScope ["deck", "most", "way", "found", "k", "prime", "some"] ["deck", "most"] (defScope s_bound) := ⟨rfl, rfl, rfl, by decide +kernel, rfl, by decide +kernel, by decide +kernel⟩
section
variable {P : Program} {w : World} {K : PySem.W.Frag} {mg : Str → Option Value} {base : Heap}
theorem ok_bound (D : Top K mg "_law_bound" s_bound ["deck", "most"]) (h_next : Has P w K mg base CX0 2 "_law_next" ["deck", "many"] (sp2 (pNext 1))) (h_great : Has P w K mg base CX0 3 "_law_great" ["deck", "most"] (sp2 (pNext 2))) (z_len : mg "len" = none) (z_range : mg "range" = none) :
    Has P w K mg base CX0 4 "_law_bound" ["deck", "most"] (sp2 pBound) := by
  refine D.ok2 sc_bound (fun f cdv A outer s H v1 v2 Q E hr h => ?_)
  obtain ⟨d, n, m, rfl, rfl, m0, m1, hD, hn, q⟩ := h
  refine ⟨_, (pss_cons (ps_set (i := 2) sc_bound.nd rfl (.inl rfl) (pe_own h_next (hr.mono (by decide)) pass0 (pa_cons (pv 0) (pa_cons pe_int pa_nil))))
 (pss_cons (ps_if (pt_cmpR op_eq (pv 2) pe_int (nomark _)) (pss_one (ps_ret (pe_op op_add pe_int (pe_own h_next (hr.mono (by decide)) pass0 (pa_cons (pv 0) (pa_cons pe_int pa_nil)))))) pss_nil)
 (pss_cons (ps_if (pt_cmpR op_eq (pv 2) pe_int (nomark _)) (pss_one (ps_ret (pe_op op_add pe_int (pe_own h_great (hr.mono (by decide)) pass0 (pa_cons (pv 0) (pa_cons (pv 1) pa_nil)))))) pss_nil)
 (pss_cons (ps_if (pt_cmpR op_eq (pv 2) pe_int (nomark _)) (pss_cons (ps_set (i := 3) sc_bound.nd rfl (.inl rfl) pe_int)
 (pss_cons (ps_for PassesOwn.never rfl (pi_range1 (by rfl) z_range (pa_cons pe_int pa_nil)) (pg_name (i := 4) sc_bound.nd rfl (.inl rfl)) (pss_cons (ps_set (i := 5) sc_bound.nd rfl (.inl rfl) (pe_ix ix_list (pe_lst (pa_cons pe_int (pa_cons pe_int (pa_cons pe_int (pa_cons pe_int (pa_cons pe_int (pa_cons pe_int (pa_cons pe_int (pa_cons pe_int pa_nil))))))))) (pe_own h_next (hr.mono (by decide)) pass0 (pa_cons (pv 0) (pa_cons pe_int pa_nil))) (fun _ _ => rfl)))
 (pss_one (ps_if (pt_cmpR op_le (pe_op op_mulB (pv 3) (pv 5)) (pv 1) (nomark _)) (pss_one (ps_set (i := 3) sc_bound.nd rfl (.inl rfl) (pe_op op_mulB (pv 3) (pv 5)))) pss_nil))))
 (pss_one (ps_ret (pv 3))))) pss_nil)
 (pss_cons (ps_if (pt_cmpR op_eq (pv 2) pe_int (nomark _)) (pss_cons (ps_setLc (i := 6) (own := [("prime", 5)]) (by rfl) sc_bound.nd rfl rfl (sw_true rfl rfl rfl (by decide +kernel)) (pi_list (pe_lst (pa_cons pe_int (pa_cons pe_int (pa_cons pe_int (pa_cons pe_int (pa_cons pe_int (pa_cons pe_int (pa_cons pe_int (pa_cons pe_int pa_nil)))))))))) (blkOk_by (own := [("prime", 5)]) (N := ["deck", "most", "way", "found", "k", "prime", "some"]) (sc := defScope s_bound) (by decide +kernel)) (fun _ _ _ _ _ => pg_name (i := 5) sc_bound.nd rfl (Or.inl rfl)) (fun _ _ _ _ _ => pts_one (pt_cmpR op_le (pv 5) (pv 1) (nomark _))) (fun _ _ _ _ _ => (pv 5)))
 (pss_one (ps_ret (pe_ix ix_list (pv 6) (pe_own h_next (hr.mono (by decide)) pass0 (pa_cons (pv 0) (pa_cons (pe_callB (id := "len") call_len_seq (by rfl) z_len (by decide +kernel) (pa_cons (pv 6) pa_nil)) pa_nil))) (fun _ _ => rfl))))) pss_nil)
 (pss_cons (ps_if (pt_cmpR op_eq (pv 2) pe_int (nomark _)) (pss_one (ps_ret (pe_op op_sub (pv 1) (pe_own h_next (hr.mono (by decide)) pass0 (pa_cons (pv 0) (pa_cons pe_int pa_nil)))))) pss_nil)
 (pss_cons (ps_set (i := 3) sc_bound.nd rfl (.inl rfl) pe_int)
 (pss_cons (ps_set (i := 5) sc_bound.nd rfl (.inl rfl) (pe_ix ix_list (pe_lst (pa_cons pe_int (pa_cons pe_int (pa_cons pe_int (pa_cons pe_int pa_nil))))) (pe_own h_next (hr.mono (by decide)) pass0 (pa_cons (pv 0) (pa_cons pe_int pa_nil))) (fun _ _ => rfl)))
 (pss_cons (ps_for PassesOwn.never rfl (pi_range1 (by rfl) z_range (pa_cons (pe_op op_add pe_int (pe_own h_next (hr.mono (by decide)) pass0 (pa_cons (pv 0) (pa_cons pe_int pa_nil)))) pa_nil)) (pg_name (i := 4) sc_bound.nd rfl (.inl rfl)) (pss_one (ps_if (pt_cmpR op_le (pe_op op_mulB (pv 3) (pv 5)) (pv 1) (nomark _)) (pss_one (ps_set (i := 3) sc_bound.nd rfl (.inl rfl) (pe_op op_mulB (pv 3) (pv 5)))) pss_nil)))
 (pss_one (ps_ret (pv 3)))))))))))), ?_⟩
  refine ⟨_, rfl, _, _, rfl, d, n, 6, rfl, rfl, by decide, by decide, hD, by omega, fun H1 way B1 D1 w0 w1 => ?_⟩
  refine ⟨_, rfl, rfl, _, rfl, ifI (fun e => ?_) (fun e0 => ?_)⟩
  · refine ⟨_, rfl, _, _, rfl, d, n + 1, 12, rfl, rfl, by decide, by decide, D1, by omega, fun H2 v B2 D2 u0 u1 => ?_⟩
    exact ⟨_, _, rfl, rfl, q _ _ (B1.trans B2) (D2.mono (by omega)) (by omega) (by omega)⟩
  refine ⟨_, rfl, rfl, _, rfl, ifI (fun e => ?_) (fun e1 => ?_)⟩
  · refine ⟨_, rfl, _, rfl, _, _, rfl, d, n + 1, m, rfl, rfl, by omega, by omega, D1, by omega, fun H2 v B2 D2 u0 u1 => ?_⟩
    exact ⟨_, _, rfl, rfl, q _ _ (B1.trans B2) (D2.mono (by omega)) (by omega) (by omega)⟩
  refine ⟨_, rfl, rfl, _, rfl, ifI (fun e => ?_) (fun e2 => ?_)⟩
  · -- found = 1; for k in range(24)
    refine ⟨24, rfl, by decide, by decide, for_range (lo := 0) (n := 24) (fun i σ H' => ∃ (yk yp : Option V) (g : Int), σ = [some (.ref d), some (.int m), some (.int way), some (.int g), yk, yp, none] ∧ But d H H' ∧ Deck H' d (n + 1 + i) ∧ 1 ≤ g ∧ g ≤ m) ⟨none, none, 1, rfl, B1, D1, by omega, by omega⟩ ?_ ?_⟩
    · rintro i σ H' hi ⟨yk, yp, g, rfl, B2, D2, g0, g1⟩
      refine ⟨by show 8 ≤ sizeLine; decide, fun l nl => ?_⟩
      have s1 := same_new (o := .lst [.int 2, .int 2, .int 3, .int 3, .int 5, .int 7, .int 11, .int 13]) nl
      refine ⟨_, rfl, _, _, rfl, d, n + 1 + i, 8, rfl, rfl, by decide, by decide, D2.same s1, by omega, fun H3 v B3 D3 u0 u1 => ?_⟩
      obtain ⟨x, hx, ex⟩ := at_ints (ns := [2, 2, 3, 3, 5, 7, 11, 13]) u0 (by show v < 8; exact u1)
      have bx : 2 ≤ x ∧ x ≤ 13 := (by decide : ∀ x ∈ ([2, 2, 3, 3, 5, 7, 11, 13] : List Int), 2 ≤ x ∧ x ≤ 13) x hx
      have hl3 : H3 l = some (.lst [.int 2, .int 2, .int 3, .int 3, .int 5, .int 7, .int 11, .int 13]) := B3 _ _ (D2.ne nl) upd_same
      have B4 : But d H H3 := (B2.trans s1.but).trans B3
      have mb := mul_bd (show 0 ≤ g by omega) g1 (show 0 ≤ x by omega) bx.2
      refine ⟨l, _, v, _, rfl, rfl, SqL.of hl3, ex, ?_⟩
      refine ⟨_, rfl, _, rfl, _, _, rfl, rfl, ⟨by unfold Big; omega, by unfold Big; omega⟩, _, rfl, _, _, rfl, rfl, _, rfl, ifD (fun le => ?_) (fun le => ?_)⟩
      · refine ⟨_, rfl, _, rfl, _, _, rfl, rfl, ⟨by unfold Big; omega, by unfold Big; omega⟩, some (.int (0 + i)), some (.int x), g * x, rfl, B4, D3.mono (by omega), ?_, le⟩
        have := mul_bd (show (0:Int) ≤ 1 by decide) g0 (show (0:Int) ≤ 1 by decide) (show 1 ≤ x by omega)
        omega
      · exact ⟨some (.int (0 + i)), some (.int x), g, rfl, B4, D3.mono (by omega), g0, g1⟩
    · rintro σ H' ⟨yk, yp, g, rfl, B2, D2, g0, g1⟩
      exact ⟨_, rfl, q _ _ B2 (D2.mono (by omega)) g0 g1⟩
  refine ⟨_, rfl, rfl, _, rfl, ifI (fun e => ?_) (fun e3 => ?_)⟩
  · -- some = [prime for prime in [..] if prime <= most]
    refine ⟨by show 8 ≤ sizeLine; decide, fun l nl => ?_⟩
    have s1 := same_new (o := .lst [.int 2, .int 3, .int 7, .int 97, .int 1999, .int 10007, .int 999983, .int 999999999989]) nl
    refine ⟨l, rfl, ⟨_, SqL.of upd_same⟩, fun L nL => ?_⟩
    have nlL : l ≠ L := ne_of_none (upd_same (H := H1)) nL
    refine lc_list (K := K) (a := l) (xs := ([2, 3, 7, 97, 1999, 10007, 999983, 999999999989] : List Int).map V.int)
      (fun i H' => ∃ acc : List Int, H' = upd (upd H1 l (.lst [.int 2, .int 3, .int 7, .int 97, .int 1999, .int 10007, .int 999983, .int 999999999989])) L (.lst (acc.map V.int)) ∧ acc.length ≤ i ∧ (∀ x ∈ acc, 2 ≤ x ∧ x ≤ m) ∧ (0 < i → 0 < acc.length)) ⟨[], rfl, Nat.le_refl _, by simp, by omega⟩ ?_ ?_ ?_
    · rintro i H' _ ⟨acc, rfl, _⟩
      refine SqL.of ?_
      rw [upd_ne nlL, upd_same]
      rfl
    · rintro i x H' hi ⟨acc, rfl, al, ab, ap⟩
      obtain ⟨z, hz, rfl⟩ : ∃ z, ([2, 3, 7, 97, 1999, 10007, 999983, 999999999989] : List Int)[i]? = some z ∧ x = V.int z := by
        rw [List.getElem?_map] at hi
        cases ez : ([2, 3, 7, 97, 1999, 10007, 999983, 999999999989] : List Int)[i]? with
        | none => rw [ez] at hi; cases hi
        | some z => rw [ez] at hi; exact ⟨z, rfl, (Option.some.inj hi).symm⟩
      have i8 : i < 8 := (List.getElem?_eq_some_iff.mp hz).1
      have z2 : 2 ≤ z := (by decide : ∀ x ∈ ([2, 3, 7, 97, 1999, 10007, 999983, 999999999989] : List Int), 2 ≤ x) z (List.mem_of_getElem? hz)
      refine ⟨rfl, _, rfl, _, rfl, _, _, rfl, rfl, _, rfl, ifD (fun le => ?_) (fun le => ?_)⟩
      · refine ⟨_, rfl, _, upd_same, ?_, acc ++ [z], ?_, ?_, fun y hy => ?_, fun _ => ?_⟩
        · rw [List.length_map]
          exact szl (by omega)
        · rw [upd_upd, List.map_append]
          rfl
        · rw [List.length_append]
          show acc.length + 1 ≤ i + 1
          omega
        · rcases List.mem_append.mp hy with hy | hy
          · exact ab y hy
          · rw [List.mem_singleton.mp hy]
            exact ⟨z2, le⟩
        · rw [List.length_append]
          show 0 < acc.length + 1
          omega
      · refine ⟨acc, rfl, by omega, ab, fun _ => ?_⟩
        by_cases i0 : 0 < i
        · exact ap i0
        · have : i = 0 := by omega
          subst this
          have ez : (2 : Int) = z := Option.some.inj hz
          omega
    · rintro H' ⟨acc, rfl, al, ab, ap⟩
      have al8 : acc.length ≤ 8 := al
      have ap' : 0 < acc.length := ap (by decide)
      have s2 := same_new (o := .lst (acc.map V.int)) nL
      refine ⟨_, rfl, _, rfl, _, rfl, L, _, rfl, .inl (SqL.of upd_same), _, _, rfl, d, n + 1, _, rfl, rfl, ?_, ?_, (D1.same s1).same s2, by omega, fun H3 v B3 D3 u0 u1 => ?_⟩
      · rw [List.length_map]
        omega
      · rw [List.length_map]
        omega
      · rw [List.length_map] at u1
        obtain ⟨x, hx, ex⟩ := at_ints (ns := acc) u0 u1
        have hl3 : H3 L = some (.lst (acc.map V.int)) := B3 _ _ ((D1.same s1).ne nL) upd_same
        have bx := ab x hx
        exact ⟨L, _, v, _, rfl, rfl, SqL.of hl3, ex, q _ _ ((B1.trans (s1.trans s2).but).trans B3) (D3.mono (by omega)) (by omega) bx.2⟩
  refine ⟨_, rfl, rfl, _, rfl, ifI (fun e => ?_) (fun e4 => ?_)⟩
  · refine ⟨_, rfl, _, rfl, _, _, rfl, d, n + 1, 50, rfl, rfl, by decide, by decide, D1, by omega, fun H2 v B2 D2 u0 u1 => ?_⟩
    exact ⟨_, _, rfl, rfl, q _ _ (B1.trans B2) (D2.mono (by omega)) (by omega) (by omega)⟩
  -- a prime's power
  refine ⟨by show 4 ≤ sizeLine; decide, fun l nl => ?_⟩
  have s1 := same_new (o := .lst [.int 2, .int 3, .int 5, .int 7]) nl
  refine ⟨_, rfl, _, _, rfl, d, n + 1, 4, rfl, rfl, by decide, by decide, D1.same s1, by omega, fun H2 v B2 D2 u0 u1 => ?_⟩
  obtain ⟨x, hx, ex⟩ := at_ints (ns := [2, 3, 5, 7]) u0 (by show v < 4; exact u1)
  have bx : 2 ≤ x ∧ x ≤ 7 := (by decide : ∀ x ∈ ([2, 3, 5, 7] : List Int), 2 ≤ x ∧ x ≤ 7) x hx
  have hl2 : H2 l = some (.lst [.int 2, .int 3, .int 5, .int 7]) := B2 _ _ (D1.ne nl) upd_same
  refine ⟨l, _, v, _, rfl, rfl, SqL.of hl2, ex, ?_⟩
  refine ⟨_, rfl, _, _, rfl, d, n + 2, 40, rfl, rfl, by decide, by decide, D2, by omega, fun H3 c B3 D3 c0 c1 => ?_⟩
  have B4 : But d H H3 := ((B1.trans s1.but).trans B2).trans B3
  refine ⟨_, _, rfl, rfl, 1 + c, rfl, by omega, by omega, for_range (lo := 0) (n := (1 + c).toNat) (fun i σ H' => ∃ (yk : Option V) (g : Int), σ = [some (.ref d), some (.int m), some (.int way), some (.int g), yk, some (.int x), none] ∧ H' = H3 ∧ 1 ≤ g ∧ g ≤ m) ⟨none, 1, rfl, rfl, by omega, by omega⟩ ?_ ?_⟩
  · rintro i σ H' hi ⟨yk, g, rfl, rfl, g0, g1⟩
    have mb := mul_bd (show 0 ≤ g by omega) g1 (show 0 ≤ x by omega) bx.2
    refine ⟨_, rfl, _, rfl, _, _, rfl, rfl, ⟨by unfold Big; omega, by unfold Big; omega⟩, _, rfl, _, _, rfl, rfl, _, rfl, ifD (fun le => ?_) (fun le => ?_)⟩
    · refine ⟨_, rfl, _, rfl, _, _, rfl, rfl, ⟨by unfold Big; omega, by unfold Big; omega⟩, some (.int (0 + i)), g * x, rfl, rfl, ?_, le⟩
      have := mul_bd (show (0:Int) ≤ 1 by decide) g0 (show (0:Int) ≤ 1 by decide) (show 1 ≤ x by omega)
      omega
    · exact ⟨some (.int (0 + i)), g, rfl, rfl, g0, g1⟩
  · rintro σ H' ⟨yk, g, rfl, rfl, g0, g1⟩
    exact ⟨_, rfl, q _ _ B4 (D3.mono (by omega)) g0 g1⟩
end
end Tw


namespace Tw
open PySem PySem.Spec PyProof.Rows L2
abbrev s_rule : Stmt := topS 29
theorem sc_rule : FnScope ["deck", "most", "bound", "times", "way", "shared", "prime", "plus"] ["deck", "most"] (defScope s_rule) := ⟨rfl, rfl, rfl, by decide +kernel, rfl, by decide +kernel, by decide +kernel⟩
section
variable {P : Program} {w : World} {K : PySem.W.Frag} {mg : Str → Option Value} {base : Heap}
theorem ok_rule (D : Top K mg "_law_rule" s_rule ["deck", "most"]) (h_next : Has P w K mg base CX0 2 "_law_next" ["deck", "many"] (sp2 (pNext 1))) (h_great : Has P w K mg base CX0 3 "_law_great" ["deck", "most"] (sp2 (pNext 2))) (h_bound : Has P w K mg base CX0 4 "_law_bound" ["deck", "most"] (sp2 pBound)) :
    Has P w K mg base CX0 5 "_law_rule" ["deck", "most"] (sp2 pRule) := by
  refine D.ok2 sc_rule (fun f cdv A outer s H v1 v2 Q E hr h => ?_)
  obtain ⟨d, n, m, rfl, rfl, m0, m1, hD, hn, q⟩ := h
  refine ⟨_, (pss_cons (ps_set (i := 2) sc_rule.nd rfl (.inl rfl) (pe_own h_bound (hr.mono (by decide)) pass0 (pa_cons (pv 0) (pa_cons (pv 1) pa_nil))))
 (pss_cons (ps_set (i := 3) sc_rule.nd rfl (.inl rfl) (pe_own h_great (hr.mono (by decide)) pass0 (pa_cons (pv 0) (pa_cons (pv 2) pa_nil))))
 (pss_cons (ps_set (i := 4) sc_rule.nd rfl (.inl rfl) (pe_own h_next (hr.mono (by decide)) pass0 (pa_cons (pv 0) (pa_cons pe_int pa_nil))))
 (pss_cons (ps_set (i := 5) sc_rule.nd rfl (.inl rfl) pe_int)
 (pss_cons (ps_for PassesOwn.never rfl (pi_list (pe_lst (pa_cons pe_int (pa_cons pe_int (pa_cons pe_int (pa_cons pe_int (pa_cons pe_int (pa_cons pe_int pa_nil)))))))) (pg_name (i := 6) sc_rule.nd rfl (.inl rfl)) (pss_one (ps_if (pt_cmpR op_eq (pe_op op_mod (pv 2) (pv 6)) pe_int (nomark _)) (pss_one (ps_set (i := 5) sc_rule.nd rfl (.inl rfl) (pe_op op_mulB (pv 5) (pv 6)))) pss_nil)))
 (C8.pss_cut (ps_if (pt_cmpR op_lt (pv 4) pe_int (nomark _)) (pss_one (ps_set (i := 3) sc_rule.nd rfl (.inl rfl) (pe_ix ix_list (pe_lst (pa_cons pe_int (pa_cons pe_int (pa_cons (pe_op op_sub (pv 2) pe_int) pa_nil)))) (pv 4) (fun _ _ => rfl)))) pss_nil)
 (C8.pss_cut (ps_if (pt_cmpR op_eq (pv 4) pe_int (nomark _)) (pss_one (ps_set (i := 3) sc_rule.nd rfl (.inl rfl) (pe_op op_mulB (pv 3) (pv 5)))) pss_nil)
 (C8.pss_cut (ps_if (pt_cmpR op_in_seq (pv 4) (pe_tup (pa_cons pe_int (pa_cons pe_int pa_nil))) (by rfl)) (pss_one (ps_set (i := 3) sc_rule.nd rfl (.inl rfl) (pe_op op_add pe_int (pe_op op_mulB (pe_op op_mulB (pv 3) (pv 5)) (pe_ix ix_list (pe_lst (pa_cons pe_int (pa_cons pe_int pa_nil))) (pe_op op_sub (pv 4) pe_int) (fun _ _ => rfl)))))) pss_nil)
 (pss_cons (ps_set (i := 7) sc_rule.nd rfl (.inl rfl) (pe_ix ix_list (pe_lst (pa_cons (pe_own h_great (hr.mono (by decide)) pass0 (pa_cons (pv 0) (pa_cons (pv 2) pa_nil))) (pa_cons pe_int (pa_cons pe_int (pa_cons (pe_op op_sub (pv 2) pe_int) pa_nil))))) (pe_own h_next (hr.mono (by decide)) pass0 (pa_cons (pv 0) (pa_cons pe_int pa_nil))) (fun _ _ => rfl)))
 (pss_one (ps_ret (pe_tup (pa_cons (pe_op op_mod (pv 3) (pv 2)) (pa_cons (pe_op op_mod (pv 7) (pv 2)) (pa_cons (pv 2) pa_nil))))))))))))))), ?_⟩
  refine ⟨_, rfl, _, rfl, _, _, rfl, d, n, m, rfl, rfl, m0, m1, hD, by omega, fun H1 b B1 D1 b0 b1 => ?_⟩
  refine ⟨_, rfl, _, rfl, _, _, rfl, d, n + 50, b, rfl, rfl, by omega, by omega, D1, by omega, fun H2 t B2 D2 t0 t1 => ?_⟩
  refine ⟨_, rfl, _, _, rfl, d, n + 52, 8, rfl, rfl, by decide, by decide, D2, by omega, fun H3 way B3 D3 w0 w1 => ?_⟩
  have B4 : But d H H3 := (B1.trans B2).trans B3
  -- shared = 1; for prime in [..]
  refine ⟨by show 6 ≤ sizeLine; decide, fun l nl => ?_⟩
  have s1 := same_new (o := .lst [.int 2, .int 3, .int 5, .int 7, .int 11, .int 13]) nl
  have D4 := D3.same s1
  have B5 : But d H _ := B4.trans s1.but
  refine ⟨l, rfl, ⟨_, SqL.of upd_same⟩, for_list (K := K) (a := l) (xs := ([2, 3, 5, 7, 11, 13] : List Int).map V.int) (fun i σ H' => ∃ (yp : Option V) (g : Int), σ = [some (.ref d), some (.int m), some (.int b), some (.int t), some (.int way), some (.int g), yp, none] ∧ H' = upd H3 l (.lst [.int 2, .int 3, .int 5, .int 7, .int 11, .int 13]) ∧ 1 ≤ g ∧ g ≤ 13 ^ i) ⟨none, 1, rfl, rfl, by omega, by decide⟩ ?_ ?_ ?_⟩
  · rintro i σ H' _ ⟨yp, g, rfl, rfl, _⟩
    exact SqL.of upd_same
  · rintro i x σ H' hi ⟨yp, g, rfl, rfl, g0, g1⟩
    obtain ⟨z, hz, rfl⟩ : ∃ z, ([2, 3, 5, 7, 11, 13] : List Int)[i]? = some z ∧ x = V.int z := by
      rw [List.getElem?_map] at hi
      cases ez : ([2, 3, 5, 7, 11, 13] : List Int)[i]? with
      | none => rw [ez] at hi; cases hi
      | some z => rw [ez] at hi; exact ⟨z, rfl, (Option.some.inj hi).symm⟩
    have i6 : i < 6 := (List.getElem?_eq_some_iff.mp hz).1
    have z2 : 2 ≤ z ∧ z ≤ 13 := (by decide : ∀ x ∈ ([2, 3, 5, 7, 11, 13] : List Int), 2 ≤ x ∧ x ≤ 13) z (List.mem_of_getElem? hz)
    have p6 : (13 : Int) ^ i ≤ 371293 := by
      have : i = 0 ∨ i = 1 ∨ i = 2 ∨ i = 3 ∨ i = 4 ∨ i = 5 := by omega
      rcases this with rfl | rfl | rfl | rfl | rfl | rfl <;> decide
    have mb := mul_bd (show 0 ≤ g by omega) g1 (show 0 ≤ z by omega) z2.2
    have ps : (13 : Int) ^ (i + 1) = 13 ^ i * 13 := Int.pow_succ _ _
    refine ⟨_, rfl, _, rfl, _, _, rfl, rfl, (show (0 : Int) < z by omega), rfl, _, rfl, ifI (fun e => ?_) (fun e => ?_)⟩
    · refine ⟨_, rfl, _, rfl, _, _, rfl, rfl, ⟨by unfold Big; omega, by unfold Big; omega⟩, some (.int z), g * z, rfl, rfl, ?_, by omega⟩
      have := mul_bd (show (0:Int) ≤ 1 by decide) g0 (show (0:Int) ≤ 1 by decide) (show 1 ≤ z by omega)
      omega
    · exact ⟨some (.int z), g, rfl, rfl, g0, by omega⟩
  rintro σ H' ⟨yp, g, rfl, rfl, g0, g1⟩
  have g1' : g ≤ 4826809 := g1
  have tb := mul_bd t0 (show t ≤ 1000000000000 by omega) (show 0 ≤ g by omega) g1'
  -- if way < 3
  refine ⟨fun σ' H' => ∃ (t' : Int), σ' = [some (.ref d), some (.int m), some (.int b), some (.int t'), some (.int way), some (.int g), yp, none] ∧ But d H H' ∧ Deck H' d (n + 53) ∧ 0 ≤ t' ∧ t' ≤ 1000000000000, ?_, ?_⟩
  · refine ⟨_, rfl, _, _, rfl, rfl, _, rfl, ifD (fun e => ?_) (fun e => ?_)⟩
    · refine ⟨_, rfl, _, _, rfl, rfl, by show 3 ≤ sizeLine; decide, fun l2 nl2 => ?_⟩
      have s2 := same_new (o := .lst [.int 0, .int 1, .int (b - 1)]) nl2
      obtain ⟨x, hx, ex⟩ := at_ints (ns := [0, 1, b - 1]) w0 (by show way < 3; exact e)
      refine ⟨_, rfl, l2, _, way, _, rfl, rfl, SqL.of upd_same, ex, x, rfl, B5.trans s2.but, D4.same s2, ?_⟩
      simp at hx
      rcases hx with rfl | rfl | rfl <;> omega
    · exact ⟨t, rfl, B5, D4, t0, by omega⟩
  rintro σ' H5 ⟨t2, rfl, B6, D6, t20, t21⟩
  have tb2 := mul_bd t20 t21 (show 0 ≤ g by omega) g1'
  -- if way == 3
  refine ⟨fun σ' H' => ∃ (t' : Int), σ' = [some (.ref d), some (.int m), some (.int b), some (.int t'), some (.int way), some (.int g), yp, none] ∧ H' = H5 ∧ 0 ≤ t' ∧ t' ≤ 4826809000000000000, ?_, ?_⟩
  · refine ⟨_, rfl, rfl, _, rfl, ifI (fun e => ?_) (fun e => ?_)⟩
    · exact ⟨_, rfl, _, rfl, _, _, rfl, rfl, ⟨by unfold Big; omega, by unfold Big; omega⟩, _, rfl, rfl, by omega, by omega⟩
    · exact ⟨t2, rfl, rfl, by omega, by omega⟩
  rintro σ' _ ⟨t3, rfl, rfl, t30, t31⟩
  have tb3 := mul_bd t30 t31 (show 0 ≤ g by omega) g1'
  -- if way in (4, 5)
  refine ⟨fun σ' H' => ∃ (t' : Int), σ' = [some (.ref d), some (.int m), some (.int b), some (.int t'), some (.int way), some (.int g), yp, none] ∧ But d H H' ∧ Deck H' d (n + 53), ?_, ?_⟩
  · refine ⟨_, rfl, by show 2 ≤ sizeLine; decide, fun l2 nl2 => ?_⟩
    have s2 := same_new (o := .tup [.int 4, .int 5]) nl2
    refine ⟨l2, _, rfl, .inr (SqT.of upd_same), rfl, rfl, _, rfl, ifB (fun e => ?_) (fun e => ?_)⟩
    · have hw : way = 4 ∨ way = 5 := by
        have e' : ((4 == way) || ((5 == way) || false)) = true := e
        simp at e'
        omega
      refine ⟨_, rfl, _, rfl, _, _, rfl, rfl, ⟨by unfold Big; omega, by unfold Big; omega⟩, by show 2 ≤ sizeLine; decide, fun l3 nl3 => ?_⟩
      have s3 := same_new (o := .lst [.int 1, .int 2]) nl3
      obtain ⟨x, hx, ex⟩ := at_ints (ns := [1, 2]) (show 0 ≤ way - 4 by omega) (by show way - 4 < 2; omega)
      have bx : 1 ≤ x ∧ x ≤ 2 := (by decide : ∀ x ∈ ([1, 2] : List Int), 1 ≤ x ∧ x ≤ 2) x hx
      refine ⟨_, rfl, _, _, rfl, rfl, l3, _, way - 4, _, rfl, rfl, SqL.of upd_same, ex, _, _, rfl, rfl, ⟨by unfold Big; omega, by unfold Big; omega⟩, _, _, rfl, rfl, _, rfl, (B6.trans s2.but).trans s3.but, (D6.same s2).same s3⟩
    · exact ⟨t3, rfl, B6.trans s2.but, D6.same s2⟩
  rintro σ' H6 ⟨t4, rfl, B7, D7⟩
  -- plus
  refine ⟨_, rfl, _, rfl, _, _, rfl, d, n + 53, b, rfl, rfl, by omega, by omega, D7, by omega, fun H7 p B8 D8 p0 p1 => ?_⟩
  refine ⟨_, rfl, _, _, rfl, rfl, by show 4 ≤ sizeLine; decide, fun l2 nl2 => ?_⟩
  have s2 := same_new (o := .lst [.int p, .int 0, .int 1, .int (b - 1)]) nl2
  refine ⟨_, rfl, _, _, rfl, d, n + 55, 4, rfl, rfl, by decide, by decide, D8.same s2, by omega, fun H8 v B9 D9 u0 u1 => ?_⟩
  obtain ⟨x, hx, ex⟩ := at_ints (ns := [p, 0, 1, b - 1]) u0 (by show v < 4; exact u1)
  have hl2 : H8 l2 = some (.lst [.int p, .int 0, .int 1, .int (b - 1)]) := B9 _ _ (D8.ne nl2) upd_same
  refine ⟨l2, _, v, _, rfl, rfl, SqL.of hl2, ex, ?_⟩
  refine ⟨_, rfl, _, rfl, _, _, rfl, rfl, (show (0 : Int) < b by omega), _, rfl, _, rfl, _, _, rfl, rfl, (show (0 : Int) < b by omega), _, rfl, by show 3 ≤ sizeLine; decide, fun r nr => ?_⟩
  have s3 := same_new (o := .tup [.int (t4 % b), .int (x % b), .int b]) nr
  have bt := mod_bd t4 (show 0 < b by omega)
  have bp := mod_bd x (show 0 < b by omega)
  have Bf : But d H H8 := ((B7.trans B8).trans s2.but).trans B9
  exact q _ r _ _ _ (Bf.trans s3.but) ((D9.same s3).mono (by omega)) (Bf.free (D9.ne nr) nr) upd_same ⟨b0, by omega, bt.1, bt.2, bp.1, bp.2⟩ b1
end
end Tw


namespace Tw
open PySem PySem.Spec PyProof.Rows L2
abbrev s_start : Stmt := topS 30
theorem sc_start : FnScope ["deck", "bound"] ["deck", "bound"] (defScope s_start) := ⟨rfl, rfl, rfl, by decide +kernel, rfl, by decide +kernel, by decide +kernel⟩
section
variable {P : Program} {w : World} {K : PySem.W.Frag} {mg : Str → Option Value} {base : Heap}
theorem ok_start (D : Top K mg "_law_start" s_start ["deck", "bound"]) (h_next : Has P w K mg base CX0 2 "_law_next" ["deck", "many"] (sp2 (pNext 1))) (h_great : Has P w K mg base CX0 3 "_law_great" ["deck", "most"] (sp2 (pNext 2))) :
    Has P w K mg base CX0 4 "_law_start" ["deck", "bound"] (sp2 (pNext 3)) := by
  refine D.ok2 sc_start (fun f cdv A outer s H v1 v2 Q E hr h => ?_)
  obtain ⟨d, n, m, rfl, rfl, m0, m1, hD, hn, q⟩ := h
  refine ⟨_, (pss_one (ps_ret (pe_ix ix_list (pe_lst (pa_cons (pe_own h_great (hr.mono (by decide)) pass0 (pa_cons (pv 0) (pa_cons (pv 1) pa_nil))) (pa_cons pe_int (pa_cons (pe_op op_sub (pv 1) pe_int) pa_nil)))) (pe_own h_next (hr.mono (by decide)) pass0 (pa_cons (pv 0) (pa_cons pe_int pa_nil))) (fun _ _ => rfl)))), ?_⟩
  refine ⟨_, rfl, _, rfl, _, _, rfl, d, n, m, rfl, rfl, m0, m1, hD, by omega, fun H1 g B1 D1 g0 g1 => ?_⟩
  refine ⟨_, rfl, _, _, rfl, rfl, by show 3 ≤ sizeLine; decide, fun l nl => ?_⟩
  have s1 := same_new (o := .lst [.int g, .int 0, .int (m - 1)]) nl
  refine ⟨_, rfl, _, _, rfl, d, n + 2, 3, rfl, rfl, by decide, by decide, D1.same s1, by omega, fun H2 v B2 D2 u0 u1 => ?_⟩
  obtain ⟨x, hx, ex⟩ := at_ints (ns := [g, 0, m - 1]) u0 (by show v < 3; exact u1)
  have hl : H2 l = some (.lst [.int g, .int 0, .int (m - 1)]) := B2 _ _ (D1.ne nl) upd_same
  refine ⟨l, _, v, _, rfl, rfl, SqL.of hl, ex, ?_⟩
  simp at hx
  exact q _ _ ((B1.trans s1.but).trans B2) D2 (by rcases hx with rfl | rfl | rfl <;> omega) (by rcases hx with rfl | rfl | rfl <;> omega)
end
end Tw


namespace Tw
open PySem PySem.Spec PyProof.Rows L2
abbrev s_init : Stmt := inClass (topS 3) 0
theorem sc_init : FnScope ["self", "number"] ["self", "number"] (defScope s_init) := ⟨rfl, rfl, rfl, by decide +kernel, rfl, by decide +kernel, by decide +kernel⟩
abbrev s_is_whole : Stmt := topS 5
theorem sc_is_whole : FnScope ["thing"] ["thing"] (defScope s_is_whole) := ⟨rfl, rfl, rfl, by decide +kernel, rfl, by decide +kernel, by decide +kernel⟩
abbrev s_is_number : Stmt := topS 6
theorem sc_is_number : FnScope ["thing", "bound"] ["thing", "bound"] (defScope s_is_number) := ⟨rfl, rfl, rfl, by decide +kernel, rfl, by decide +kernel, by decide +kernel⟩
abbrev s_check_number : Stmt := topS 7
theorem sc_check_number : FnScope ["number", "bound"] ["number", "bound"] (defScope s_check_number) := ⟨rfl, rfl, rfl, by decide +kernel, rfl, by decide +kernel, by decide +kernel⟩
section
variable {P : Program} {w : World} {K : PySem.W.Frag} {mg : Str → Option Value} {base : Heap}
theorem ok_init {f CR : Addr} {fd : FuncData} (F : Fun K "__init__" "NoNumber.__init__" s_init f fd) (g_RowError : mg "RowError" = some (.ref CR)) (r_RowError : ClX.CRead K CR (.type "type"))
    (i_RowError : PySem.W.findCls K (.ref CR) (.type "type") "__init__" = some (.val (.builtin "ValueError.__init__"))) : FnOk P w K mg base CX0 1 f fd ["self", "number"] (spInit K) := by
  refine F.ok sc_init (fun vs H Q E h => ?_) (fun cdv A outer s H vs Q E hr h => ?_)
  · obtain ⟨_, _, rfl, _⟩ := h; rfl
  obtain ⟨_, v, rfl, a, C, rfl, T, nf, ha, q⟩ := h
  refine ⟨_, pss_cons (ps_expr (pe_ownInit (by rfl) g_RowError r_RowError i_RowError (pa_cons (pv 0) (pa_cons pe_str pa_nil)))) (pss_one (ps_ost (pv 0) (pv 1))), ?_⟩
  refine ⟨_, rfl, a, C, _, rfl, by show 1 ≤ 1000; decide, T, ha, ?_⟩
  exact ⟨_, rfl, _, rfl, a, C, rfl, T, nf, .inl ⟨ha, fun d nd ne => q d nd ne⟩⟩
theorem ok_is_whole (D : Top K mg "is_whole" s_is_whole ["thing"]) (z_isinstance : mg "isinstance" = none) (z_int : mg "int" = none) (z_bool : mg "bool" = none) : Has P w K mg base CX0 1 "is_whole" ["thing"] (sp1 pWhole) := by
  refine D.ok1 sc_is_whole (fun f cdv A outer s H v1 Q E hr h => ?_)
  obtain ⟨n, rfl, q⟩ := h
  refine ⟨_, (pss_one (ps_ret (pe_and (pe_callB (id := "isinstance") call_isA (by rfl) z_isinstance (by decide +kernel) (pa_cons (pv 0) (pa_cons (pe_bltn (v := .ty "int") (by rfl) z_int (by decide +kernel) rfl) pa_nil))) (pe_one (pe_not (pe_callB (id := "isinstance") call_isA (by rfl) z_isinstance (by decide +kernel) (pa_cons (pv 0) (pa_cons (pe_bltn (v := .ty "bool") (by rfl) z_bool (by decide +kernel) rfl) pa_nil)))))))), ?_⟩
  refine ⟨_, rfl, .inr ⟨_, _, _, _, true, rfl, .ty _, .base (.int n), kit_ty (by decide +kernel), _, rfl, ifT rfl ?_⟩⟩
  exact ⟨_, rfl, .inr ⟨_, _, _, _, false, rfl, .ty _, .base (.int n), kit_ty (by decide +kernel), _, rfl, q⟩⟩
theorem ok_is_number (D : Top K mg "is_number" s_is_number ["thing", "bound"]) (h_is_whole : Has P w K mg base CX0 1 "is_whole" ["thing"] (sp1 pWhole)) : Has P w K mg base CX0 2 "is_number" ["thing", "bound"] (sp2 pIsNum) := by
  refine D.ok2 sc_is_number (fun f cdv A outer s H v1 v2 Q E hr h => ?_)
  obtain ⟨n, m, rfl, rfl, q⟩ := h
  refine ⟨_, (pss_one (ps_ret (pe_and (pe_own h_is_whole (hr.mono (by decide)) pass0 (pa_cons (pv 0) pa_nil)) (pe_one (pe_chain op_le op_lt pe_int (pv 0) (pv 1)))))), ?_⟩
  refine ⟨_, rfl, _, rfl, n, rfl, _, rfl, ifT rfl ?_⟩
  refine ⟨_, rfl, _, _, rfl, rfl, _, rfl, ifD (fun l => ⟨_, rfl, _, _, rfl, rfl, ?_⟩) (fun l => ?_)⟩
  · have e : decide (0 ≤ n ∧ n < m) = decide (n < m) := by
      by_cases h : n < m <;> simp [h, l]
    rw [e] at q
    exact q
  · have e : decide (0 ≤ n ∧ n < m) = false := decide_eq_false fun z => l z.1
    rw [e] at q
    exact q
theorem ok_check_number {CN fI : Addr} {fdI : FuncData} (D : Top K mg "check_number" s_check_number ["number", "bound"]) (h_is_number : Has P w K mg base CX0 2 "is_number" ["thing", "bound"] (sp2 pIsNum)) (oex_NoNumber : OexC K CN)
    (n_NoNumber : PySem.W.findIn K (.ref CN) "__init__" = some (some (.ref fI))) (t_NoNumber : PySem.W.typeIn K (.ref fI) = some (.type "function")) (F_NoNumber : FnOk P w K mg base CX0 1 fI fdI ["self", "number"] (spInit K)) (b_NoNumber : Binds K fdI ["self", "number"] [])
    (g_NoNumber : mg "NoNumber" = some (.ref CN)) (nf : PySem.W.findIn K (.ref CN) "number" = some none) : Has P w K mg base (L2.CX P w) 3 "check_number" ["number", "bound"] (sp2 (pCheck CN)) := by
  refine D.ok2X sc_check_number (fun f cdv A outer s H v1 v2 Q E hr h => ?_)
  obtain ⟨n, m, rfl, rfl, q, e⟩ := h
  refine ⟨_, (pss_one (ps_if (pt_not (pt_val (pe_own h_is_number (hr.mono (by decide)) pass0 (pa_cons (pv 0) (pa_cons (pv 1) pa_nil))))) (pss_one (ps_raise rfl (takes_of rfl rfl rfl rfl) (pmk_oex oex_NoNumber n_NoNumber t_NoNumber F_NoNumber (hr.mono (by decide)) b_NoNumber .nil pass0 (by rfl) g_NoNumber (pa_cons (pv 0) pa_nil)))) pss_nil)), ?_⟩
  have bad : ¬ (0 ≤ n ∧ n < m) → _ := fun hn => e hn
  refine ⟨_, rfl, _, rfl, _, _, rfl, n, m, rfl, rfl, _, rfl, ifN (fun l => ?_) (fun l => q l.1 l.2)⟩
  refine ⟨_, rfl, by show 1 ≤ 1000; decide, fun a na => ⟨_, _, rfl, a, CN, rfl, oex_NoNumber, nf, upd_same, fun d nd ne => ⟨rfl, d, [("number", .int n)], upd_same, ?_, ?_, ?_⟩⟩⟩
  · rw [upd_ne ne, upd_same]
  · rw [upd_ne ne] at nd; exact nd
  · rw [made_eq na ne]
    rw [upd_ne ne] at nd
    exact bad l d nd
end
end Tw


namespace Tw
open PySem PySem.Spec PyProof.Rows L2
abbrev s_next_of : Stmt := topS 11
theorem sc_next_of : FnScope ["rule", "number", "times", "plus", "bound"] ["rule", "number"] (defScope s_next_of) := ⟨rfl, rfl, rfl, by decide +kernel, rfl, by decide +kernel, by decide +kernel⟩
section
variable {P : Program} {w : World} {K : PySem.W.Frag} {mg : Str → Option Value} {base : Heap}
theorem ok_next_of {CN : Addr} (D : Top K mg "next_of" s_next_of ["rule", "number"]) (h_check_number : Has P w K mg base (L2.CX P w) 3 "check_number" ["number", "bound"] (sp2 (pCheck CN))) :
    Has P w K mg base (L2.CX P w) 4 "next_of" ["rule", "number"] (sp2 (pNextOf K CN)) := by
  refine D.ok2X sc_next_of (fun f cdv A outer s H v1 v2 Q E hr h => ?_)
  obtain ⟨r, t, p, m, n, rfl, rfl, hr1, R, q, e⟩ := h
  refine ⟨_, (pss_cons (ps_asg (pv 0) (pg_tup rfl (pgs_cons (pg_name (i := 2) sc_next_of.nd rfl (.inl rfl)) (pgs_cons (pg_name (i := 3) sc_next_of.nd rfl (.inl rfl)) (pgs_cons (pg_name (i := 4) sc_next_of.nd rfl (.inl rfl)) pgs_nil)))))
 (pss_cons (ps_expr (pe_own h_check_number (hr.mono (by decide)) (passes_call (takes_of rfl rfl rfl rfl) (fun _ _ _ _ z => z)) (pa_cons (pv 1) (pa_cons (pv 4) pa_nil))))
 (pss_one (ps_ret (pe_op op_mod (pe_op op_add (pe_op op_mulB (pv 2) (pv 1)) (pv 3)) (pv 4)))))), ?_⟩
  refine ⟨_, rfl, r, _, rfl, hr1, rfl, _, _, rfl, _, _, rfl, _, _, rfl, rfl, ?_⟩
  refine ⟨_, rfl, _, rfl, _, _, rfl, n, m, rfl, rfl, fun n0 n1 => ?_, e⟩
  have := R.b2
  have := R.t0
  have := R.t1
  have := R.b1
  exact ⟨_, rfl, _, rfl, _, _, rfl, rfl, ⟨by unfold Big; omega, by unfold Big; omega⟩, _, rfl, _, _, rfl, rfl, _, rfl, _, _, rfl, rfl, (show (0 : Int) < m by omega), q n0 n1⟩
end
end Tw


namespace Tw
open PySem PySem.Spec PyProof.Rows L2
abbrev s_walked_on : Stmt := topS 17
theorem sc_walked_on : FnScope ["rule", "start", "places", "number"] ["rule", "start", "places"] (defScope s_walked_on) := ⟨rfl, rfl, rfl, by decide +kernel, rfl, by decide +kernel, by decide +kernel⟩
section
variable {P : Program} {w : World} {K : PySem.W.Frag} {mg : Str → Option Value} {base : Heap}
theorem ok_walked_on {CN : Addr} (D : Top K mg "walked_on" s_walked_on ["rule", "start", "places"]) (h_next_of : Has P w K mg base (L2.CX P w) 4 "next_of" ["rule", "number"] (sp2 (pNextOf K CN))) (z_len : mg "len" = none) :
    Has P w K mg base CX0 5 "walked_on" ["rule", "start", "places"] (sp3 (pWalk K)) := by
  refine D.ok3 sc_walked_on (fun f cdv A outer s H v1 v2 v3 Q E hr h => ?_)
  obtain ⟨r, t, p, m, s0, l, ws0, rfl, rfl, rfl, hr1, R, mM, s00, s01, hl, nd0, rg0, q⟩ := h
  refine ⟨_, (pss_cons (ps_set (i := 3) sc_walked_on.nd rfl (.inl rfl) (pv 1))
 (pss_cons (ps_while PassesOwn.never (pt_cmp (pc_dnotin (hu_of hr) (pv 3) (pv 2))) (pss_cons (ps_dput (hu_of hr) (pv 2) (pv 3) (pe_callB (id := "len") call_lenD (by rfl) z_len (by decide +kernel) (pa_cons (pv 2) pa_nil)) rfl)
 (pss_one (ps_set (i := 3) sc_walked_on.nd rfl (.inl rfl) (pe_own h_next_of (hr.mono (by decide)) passL (pa_cons (pv 0) (pa_cons (pv 3) pa_nil)))))))
 (pss_one (ps_ret (pv 3))))), ?_⟩
  have m0 : 0 < m := by have := R.b1; omega
  have wl0 := int_len nd0 rg0
  refine ⟨_, rfl, ?_⟩
  refine ⟨fun k σ H' => ∃ (ws : List Int) (x : Int), σ = [some (.ref r), some (.int s0), some (.ref l), some (.int x)] ∧ H' = upd H l (.dK (enumD 0 ws)) ∧ ws.Nodup ∧ Rng m ws ∧ 0 ≤ x ∧ x < m ∧ k + ws.length = m.toNat + 1 ∧
    wk (stp t p m) k ws x = wk (stp t p m) (m.toNat + 1 - ws0.length) ws0 s0, ⟨m.toNat + 1 - ws0.length, ws0, s0, rfl, (upd_self hl).symm, nd0, rg0, s00, s01, by omega, rfl⟩, ?_⟩
  rintro k σ H' ⟨ws, x, rfl, rfl, nd, rg, x0, x1, hk, hw⟩
  have wl := int_len nd rg
  have wl2 : (ws.length : Int) ≤ 1000000 := by omega
  refine ⟨_, rfl, _, rfl, l, _, rfl, DGet.k (k := Sum.inl x) upd_same, _, rfl, ?_⟩
  by_cases hx : x ∈ ws
  · rw [enumD_some 0 hx]
    refine ifF rfl ?_
    rw [wk_in hx] at hw
    refine ⟨_, rfl, ?_⟩
    rw [← hw] at q
    exact q
  · rw [enumD_none 0 hx]
    refine ifT rfl ?_
    obtain ⟨k, rfl⟩ : ∃ j, k = j + 1 := ⟨k - 1, by
      have := int_len (nodup_snoc nd hx) (rng_snoc rg ⟨x0, x1⟩)
      rw [List.length_append] at this
      have h1 : ([x] : List Int).length = 1 := rfl
      omega⟩
    rw [wk_out hx] at hw
    refine ⟨fun σ' H' => ∃ (ws : List Int) (x : Int), σ' = [some (.ref r), some (.int s0), some (.ref l), some (.int x)] ∧ H' = upd H l (.dK (enumD 0 ws)) ∧ ws.Nodup ∧ Rng m ws ∧ 0 ≤ x ∧ x < m ∧ k + ws.length = m.toNat + 1 ∧
      wk (stp t p m) k ws x = wk (stp t p m) (m.toNat + 1 - ws0.length) ws0 s0, fun σ' H' hN => ⟨k, Nat.lt_succ_self k, hN⟩, ?_⟩
    refine ⟨_, rfl, l, _, rfl, upd_same, _, rfl, _, rfl, l, _, rfl, DPut.k (k := Sum.inl x) upd_same (szM (by rw [enumD_len]; omega)), ?_⟩
    have e1 : upd (upd H l (.dK (enumD 0 ws))) l (.dK (putK (enumD 0 ws) (Sum.inl x) (.int ((enumD 0 ws).length : Int)))) = upd H l (.dK (enumD 0 (ws ++ [x]))) := by
      rw [upd_upd, putK_new _ (enumD_none 0 hx), enumD_snoc, enumD_len, Nat.zero_add]
    rw [e1]
    have hr2 : SqT K (upd H l (.dK (enumD 0 (ws ++ [x])))) r [.int t, .int p, .int m] := sqT_upd hr1 hl (fun ys z => by cases z) (fun ob v z => by cases z)
    have sr := stp_rng (t := t) (p := p) m0 x
    refine ⟨_, rfl, _, rfl, _, _, rfl, r, t, p, m, x, rfl, rfl, hr2, R, fun _ _ => ?_, fun z => absurd ⟨x0, x1⟩ z⟩
    exact ⟨ws ++ [x], stp t p m x, rfl, rfl, nodup_snoc nd hx, rng_snoc rg ⟨x0, x1⟩, sr.1, sr.2, by rw [List.length_append]; show k + (ws.length + 1) = _; omega, hw⟩
end
end Tw


namespace Tw
open PySem PySem.Spec PyProof.Rows L2
abbrev s_round_from : Stmt := topS 18
theorem sc_round_from : FnScope ["rule", "start", "places", "again"] ["rule", "start"] (defScope s_round_from) := ⟨rfl, rfl, rfl, by decide +kernel, rfl, by decide +kernel, by decide +kernel⟩
section
variable {P : Program} {w : World} {K : PySem.W.Frag} {mg : Str → Option Value} {base : Heap}
theorem ok_round_from {CN : Addr} (D : Top K mg "round_from" s_round_from ["rule", "start"]) (h_check_number : Has P w K mg base (L2.CX P w) 3 "check_number" ["number", "bound"] (sp2 (pCheck CN))) (h_walked_on : Has P w K mg base CX0 5 "walked_on" ["rule", "start", "places"] (sp3 (pWalk K))) (z_len : mg "len" = none) :
    Has P w K mg base (L2.CX P w) 6 "round_from" ["rule", "start"] (sp2 (pRound K CN)) := by
  refine D.ok2X sc_round_from (fun f cdv A outer s H v1 v2 Q E hr h => ?_)
  obtain ⟨r, t, p, m, s0, rfl, rfl, hr1, R, mM, q, e⟩ := h
  refine ⟨_, (pss_cons (ps_expr (pe_own h_check_number (hr.mono (by decide)) (passes_call (takes_of rfl rfl rfl rfl) (fun _ _ _ _ z => z)) (pa_cons (pv 1) (pa_cons (pe_ix ix_tup (pv 0) pe_int (fun _ _ => rfl)) pa_nil))))
 (pss_cons (ps_set (i := 2) sc_round_from.nd rfl (.inl rfl) pe_dnewK)
 (pss_cons (ps_set (i := 3) sc_round_from.nd rfl (.inl rfl) (pe_own h_walked_on (hr.mono (by decide)) pass0 (pa_cons (pv 0) (pa_cons (pv 1) (pa_cons (pv 2) pa_nil)))))
 (pss_one (ps_ret (pe_tup (pa_cons (pe_dget (hu_of hr) (pv 2) (pv 3) (fun _ _ => rfl)) (pa_cons (pe_op op_sub (pe_callB (id := "len") call_lenD (by rfl) z_len (by decide +kernel) (pa_cons (pv 2) pa_nil)) (pe_dget (hu_of hr) (pv 2) (pv 3) (fun _ _ => rfl))) pa_nil)))))))), ?_⟩
  have m0 : 0 < m := by have := R.b1; omega
  refine ⟨_, rfl, _, rfl, r, _, 2, .int m, rfl, rfl, hr1, rfl, _, _, rfl, s0, m, rfl, rfl, fun n0 n1 => ?_, e⟩
  intro l nl
  have s1 := same_new (o := .dK []) nl
  refine ⟨_, rfl, _, rfl, _, rfl, _, _, _, rfl, r, t, p, m, s0, l, [], rfl, rfl, rfl, s1.tup hr1, R, mM, n0, n1, upd_same, List.nodup_nil, (fun x hx => by cases hx), ?_⟩
  have W := wk_good (t := t) (p := p) m0 (m.toNat + 1) [] s0 List.nodup_nil (fun x hx => by cases hx) ⟨n0, n1⟩ (by simp)
  rw [upd_upd]
  have ew : wk (stp t p m) (m.toNat + 1 - ([] : List Int).length) [] s0 = rndW t p m s0 := rfl
  rw [ew]
  have hv : valV (enumD 0 (rndW t p m s0).1) (Sum.inl (rndW t p m s0).2) = some (V.int (rndT t p m s0)) := by
    have W2 : (rndW t p m s0).2 ∈ (rndW t p m s0).1 := W.2.2
    rw [enumD_some 0 W2, Nat.zero_add]
    rfl
  have hg := DGet.k (H := upd H l (.dK (enumD 0 (rndW t p m s0).1))) (a := l) (k := Sum.inl (rndW t p m s0).2) upd_same
  rw [hv] at hg
  refine ⟨_, rfl, _, rfl, l, _, rfl, hg, ?_⟩
  refine ⟨_, rfl, l, _, rfl, upd_same, _, rfl, _, rfl, l, _, rfl, hg, _, _, rfl, rfl, by show 2 ≤ sizeLine; decide, fun u nu => ?_⟩
  have s2 : Same H (upd H l (.dK (enumD 0 (rndW t p m s0).1))) := same_new nl
  refine q n0 n1 _ u (s2.trans (same_new nu)) (s2.free nu) ?_
  rw [upd_same, enumD_len]
  rfl
end
end Tw


namespace Tw
open PySem PySem.Spec PyProof.Rows L2
abbrev s_all_rounds : Stmt := topS 19
theorem sc_all_rounds : FnScope ["rule", "places", "rounds", "start", "begun", "again", "length"] ["rule"] (defScope s_all_rounds) := ⟨rfl, rfl, rfl, by decide +kernel, rfl, by decide +kernel, by decide +kernel⟩
section
variable {P : Program} {w : World} {K : PySem.W.Frag} {mg : Str → Option Value} {base : Heap}
theorem ok_all_rounds (D : Top K mg "all_rounds" s_all_rounds ["rule"]) (h_walked_on : Has P w K mg base CX0 5 "walked_on" ["rule", "start", "places"] (sp3 (pWalk K)))
    (z_len : mg "len" = none) (z_range : mg "range" = none) (z_tuple : mg "tuple" = none) (z_sorted : mg "sorted" = none) : Has P w K mg base CX0 6 "all_rounds" ["rule"] (sp1 (pAllR K)) := by
  refine D.ok1 sc_all_rounds (fun f cdv A outer s H v1 Q E hr h => ?_)
  obtain ⟨r, t, p, m, rfl, hr1, R, mM, q⟩ := h
  refine ⟨_, (pss_cons (ps_set (i := 1) sc_all_rounds.nd rfl (.inl rfl) pe_dnewK)
 (pss_cons (ps_set (i := 2) sc_all_rounds.nd rfl (.inl rfl) pe_dnewK)
 (pss_cons (ps_for PassesOwn.never rfl (pi_range1 (by rfl) z_range (pa_cons (pe_ix ix_tup (pv 0) pe_int (fun _ _ => rfl)) pa_nil)) (pg_name (i := 3) sc_all_rounds.nd rfl (.inl rfl)) (pss_cons (ps_set (i := 4) sc_all_rounds.nd rfl (.inl rfl) (pe_callB (id := "len") call_lenD (by rfl) z_len (by decide +kernel) (pa_cons (pv 1) pa_nil)))
 (pss_cons (ps_set (i := 5) sc_all_rounds.nd rfl (.inl rfl) (pe_own h_walked_on (hr.mono (by decide)) pass0 (pa_cons (pv 0) (pa_cons (pv 3) (pa_cons (pv 1) pa_nil)))))
 (pss_one (ps_if (pt_cmpR op_ge (pe_dget (hu_of hr) (pv 1) (pv 5) (fun _ _ => rfl)) (pv 4) (nomark _)) (pss_cons (ps_set (i := 6) sc_all_rounds.nd rfl (.inl rfl) (pe_op op_sub (pe_callB (id := "len") call_lenD (by rfl) z_len (by decide +kernel) (pa_cons (pv 1) pa_nil)) (pe_dget (hu_of hr) (pv 1) (pv 5) (fun _ _ => rfl))))
 (pss_one (ps_dput (hu_of hr) (pv 2) (pv 6) (pe_op op_add (pe_dget2 (hu_of hr) (pv 2) (pv 6) pe_int ⟨rfl, rfl, rfl, rfl⟩) pe_int) rfl))) pss_nil)))))
 (pss_one (ps_ret (pe_callTy call_tuple_of (by rfl) z_tuple (by decide +kernel) (pa_cons (pe_callB (id := "sorted") (cr_srtItems rfl) (by rfl) z_sorted (by decide +kernel) (pa_cons (pe_bm0 PySem.F.plainAttrs_dict PySem.F.slot_dict_items PySem.F.type_dict_items mt_itemsK (pv 2)) pa_nil)) pa_nil))))))), ?_⟩
  have m0 : 0 < m := by have := R.b1; omega
  intro lp nlp
  have s1 := same_new (o := .dK []) nlp
  intro lr nlr
  have s2 := same_new (o := .dK []) nlr
  have nlr' : H lr = none := s1.free nlr
  have ne : lp ≠ lr := ne_of_none (upd_same (H := H)) nlr
  have S2 := s1.trans s2
  refine ⟨_, rfl, r, _, 2, .int m, rfl, rfl, S2.tup hr1, rfl, m, rfl, by omega, by omega, for_range (lo := 0) (n := m.toNat) (fun i σ H' => ∃ (ws : List Int) (ks : List Nat) (y3 y4 y5 y6 : Option V), σ = [some (.ref r), some (.ref lp), some (.ref lr), y3, y4, y5, y6] ∧ Same H H' ∧ H' lp = some (.dK (enumD 0 ws)) ∧ H' lr = some (.dK (dInts (rdD ks (Cws (stp t p m) ws)))) ∧
    ws.Nodup ∧ Rng m ws ∧ Fcl (stp t p m) ws ∧ (∀ x : Int, 0 ≤ x → x < i → x ∈ ws) ∧ Cnt (stp t p m) ws ks ∧ ks.length ≤ i) ⟨[], [], none, none, none, none, rfl, S2, ?_, upd_same, List.nodup_nil, (fun x hx => by cases hx), (fun x hx => by cases hx), (fun x a b => by omega), cnt_nil _, Nat.le_refl 0⟩ ?_ ?_⟩
  · rw [upd_ne ne, upd_same]
    rfl
  · rintro i σ H1 hi ⟨ws, ks, y3, y4, y5, y6, rfl, sm, hlp, hlr, nd, rg, fc, cov, C, kl⟩
    have wl := int_len nd rg
    refine ⟨_, rfl, lp, _, rfl, hlp, ?_⟩
    refine ⟨_, rfl, _, rfl, _, rfl, _, _, _, rfl, r, t, p, m, 0 + i, lp, ws, rfl, rfl, rfl, sm.tup hr1, R, by omega, by omega, by omega, hlp, nd, rg, ?_⟩
    have W := wk_good (t := t) (p := p) m0 (m.toNat + 1 - ws.length) ws (0 + i) nd rg ⟨by omega, by omega⟩ (by omega)
    obtain ⟨n, hn, ew⟩ := wk_form (stp t p m) (m.toNat + 1 - ws.length) ws (0 + i)
    have ew1 : (wk (stp t p m) (m.toNat + 1 - ws.length) ws (0 + i)).1 = ws ++ orb (stp t p m) n (0 + i) := by rw [ew]
    have ew2 : (wk (stp t p m) (m.toNat + 1 - ws.length) ws (0 + i)).2 = itr (stp t p m) n (0 + i) := by rw [ew]
    rw [ew1, ew2] at W ⊢
    clear ew ew1 ew2
    obtain ⟨nd2, rg2, hy⟩ := W
    generalize hx : (0 + i : Int) = x at *
    have fc2 := fcl_walk fc hy
    have cov2 : ∀ z : Int, 0 ≤ z → z < i + 1 → z ∈ ws ++ orb (stp t p m) n x := by
      intro z z0 z1
      by_cases c : z < i
      · exact List.mem_append_left _ (cov z z0 c)
      · obtain rfl : z = x := by omega
        cases n with
        | zero => exact hy
        | succ n => exact List.mem_append_right _ (orb_mem.mpr ⟨0, by omega, rfl⟩)
    have sm2 : Same H (upd H1 lp (.dK (enumD 0 (ws ++ orb (stp t p m) n x)))) := same_mut sm nlp
    have hlr2 : (upd H1 lp (.dK (enumD 0 (ws ++ orb (stp t p m) n x)))) lr = some (.dK (dInts (rdD ks (Cws (stp t p m) ws)))) := by
      rw [upd_ne (Ne.symm ne)]
      exact hlr
    have hg := DGet.k (H := upd H1 lp (.dK (enumD 0 (ws ++ orb (stp t p m) n x)))) (a := lp) (k := Sum.inl (itr (stp t p m) n x)) upd_same
    rw [enumD_some 0 hy, Nat.zero_add] at hg
    refine ⟨_, rfl, _, rfl, lp, _, rfl, hg, _, rfl, ?_⟩
    by_cases c : itr (stp t p m) n x ∈ ws
    · have hl : List.idxOf (itr (stp t p m) n x) (ws ++ orb (stp t p m) n x) < ws.length := by
        rw [List.idxOf_append, if_pos c]
        exact List.idxOf_lt_length_of_mem c
      refine ⟨_, _, rfl, rfl, _, rfl, ifF (decide_eq_false (by rw [enumD_len]; omega)) ?_⟩
      have eo := fun L => pcnt_old nd2 fc c L
      refine ⟨_, ks, _, _, _, _, rfl, sm2, upd_same, ?_, nd2, rg2, fc2, cov2, C.old eo, by omega⟩
      rw [hlr2, cws_old eo]
    · have ho : itr (stp t p m) n x ∈ orb (stp t p m) n x := (List.mem_append.mp hy).resolve_left c
      obtain ⟨jn, ej⟩ := orb_idx ho
      have hl : List.idxOf (itr (stp t p m) n x) (ws ++ orb (stp t p m) n x) = List.idxOf (itr (stp t p m) n x) (orb (stp t p m) n x) + ws.length := by
        rw [List.idxOf_append, if_neg c]
      rw [hl] at hg
      generalize List.idxOf (itr (stp t p m) n x) (orb (stp t p m) n x) = j at *
      rw [hl]
      refine ⟨_, _, rfl, rfl, _, rfl, ifT (decide_eq_true (by rw [enumD_len]; omega)) ?_⟩
      have en := fun L => pcnt_new nd2 jn ej.symm L
      refine ⟨_, rfl, lp, _, rfl, upd_same, _, rfl, _, rfl, lp, _, rfl, hg, _, _, rfl, rfl, ?_⟩
      have el : ((enumD 0 (ws ++ orb (stp t p m) n x)).length : Int) - ((j + ws.length : Nat) : Int) = ((n - j : Nat) : Int) := by
        rw [enumD_len, List.length_append, orb_len]
        omega
      dsimp only
      rw [el]
      have c0 : 0 < n - j := by omega
      refine ⟨_, rfl, lr, rfl, .inl ⟨_, .inl hlr2⟩, _, rfl, _, DGet.k (k := Sum.inl ((n - j : Nat) : Int)) hlr2, ?_⟩
      by_cases hk : n - j ∈ ks
      · rw [rdD_in hk]
        refine ⟨_, _, rfl, rfl, _, rfl, _, rfl, lr, _, rfl, DPut.k (k := Sum.inl ((n - j : Nat) : Int)) hlr2 (szM (by rw [rdD_len]; omega)), ?_⟩
        refine ⟨_, ks, _, _, _, _, rfl, same_mut sm2 nlr', ?_, ?_, nd2, rg2, fc2, cov2, C.again hk en, by omega⟩
        · rw [upd_ne ne, upd_same]
        · rw [upd_same, rdD_put hk, cws_new c0 en]
      · rw [rdD_out hk]
        refine ⟨_, _, rfl, rfl, _, rfl, _, rfl, lr, _, rfl, DPut.k (k := Sum.inl ((n - j : Nat) : Int)) hlr2 (szM (by rw [rdD_len]; omega)), ?_⟩
        refine ⟨_, ks ++ [n - j], _, _, _, _, rfl, same_mut sm2 nlr', ?_, ?_, nd2, rg2, fc2, cov2, C.more c0 hk en, by rw [List.length_append]; show ks.length + 1 ≤ i + 1; omega⟩
        · rw [upd_ne ne, upd_same]
        · rw [upd_same, rdD_add hk, cws_new c0 en, cws_none C hk]
  · rintro σ H1 ⟨ws, ks, y3, y4, y5, y6, rfl, sm, hlp, hlr, nd, rg, fc, cov, C, kl⟩
    have all := fun L => nper_of (f := stp t p m) nd rg (fun x x0 x1 _ => cov x x0 (by omega)) L
    refine ⟨_, rfl, .inr (.inr (.inl ⟨rfl, .inl ⟨_, hlr⟩⟩)), lr, _, rfl, rfl, hlr, fun pv npv => ?_⟩
    have s3 := same_new (o := L2.DX.itemsO pv lr) npv
    refine ⟨pv, lr, rdD ks (Cws (stp t p m) ws), rfl, upd_same, s3 _ _ hlr, fun H2 l ps s4 nl pm up hl hp => ?_⟩
    refine ⟨l, _, rfl, .inl ⟨SqL.of hl, fun u nu => ?_⟩⟩
    have s5 := same_new (o := .tup (ps.map fun z => V.ref z.1)) nu
    have S := sm.trans (s3.trans s4)
    exact q _ u ps (S.trans s5) (S.free nu) ⟨upd_same, fun z hz => s5 _ _ (hp z hz)⟩ (C.rds all pm up)
end
end Tw


namespace Tw
open PySem PySem.Spec PyProof.Rows L2
abbrev s_steps_to : Stmt := topS 20
theorem sc_steps_to : FnScope ["rule", "start", "number", "places"] ["rule", "start", "number"] (defScope s_steps_to) := ⟨rfl, rfl, rfl, by decide +kernel, rfl, by decide +kernel, by decide +kernel⟩
section
variable {P : Program} {w : World} {K : PySem.W.Frag} {mg : Str → Option Value} {base : Heap}
theorem ok_steps_to {CN : Addr} (D : Top K mg "steps_to" s_steps_to ["rule", "start", "number"]) (h_check_number : Has P w K mg base (L2.CX P w) 3 "check_number" ["number", "bound"] (sp2 (pCheck CN))) (h_walked_on : Has P w K mg base CX0 5 "walked_on" ["rule", "start", "places"] (sp3 (pWalk K))) :
    Has P w K mg base (L2.CX P w) 6 "steps_to" ["rule", "start", "number"] (sp3 (pSteps K CN)) := by
  refine D.ok3X sc_steps_to (fun f cdv A outer s H v1 v2 v3 Q E hr h => ?_)
  obtain ⟨r, t, p, m, s0, n, rfl, rfl, rfl, hr1, R, mM, q, e1, e2⟩ := h
  refine ⟨_, (pss_cons (ps_expr (pe_own h_check_number (hr.mono (by decide)) (passes_call (takes_of rfl rfl rfl rfl) (fun _ _ _ _ z => z)) (pa_cons (pv 1) (pa_cons (pe_ix ix_tup (pv 0) pe_int (fun _ _ => rfl)) pa_nil))))
 (pss_cons (ps_expr (pe_own h_check_number (hr.mono (by decide)) (passes_call (takes_of rfl rfl rfl rfl) (fun _ _ _ _ z => z)) (pa_cons (pv 2) (pa_cons (pe_ix ix_tup (pv 0) pe_int (fun _ _ => rfl)) pa_nil))))
 (pss_cons (ps_set (i := 3) sc_steps_to.nd rfl (.inl rfl) pe_dnewK)
 (pss_cons (ps_expr (pe_own h_walked_on (hr.mono (by decide)) pass0 (pa_cons (pv 0) (pa_cons (pv 1) (pa_cons (pv 3) pa_nil)))))
 (pss_one (ps_ret (pe_dget1 (hu_of hr) (pv 3) (pv 2) ⟨rfl, rfl, rfl, rfl⟩))))))), ?_⟩
  have m0 : 0 < m := by have := R.b1; omega
  refine ⟨_, rfl, _, rfl, r, _, 2, .int m, rfl, rfl, hr1, rfl, _, _, rfl, s0, m, rfl, rfl, fun a0 a1 => ?_, e1⟩
  refine ⟨_, rfl, _, rfl, r, _, 2, .int m, rfl, rfl, hr1, rfl, _, _, rfl, n, m, rfl, rfl, fun n0 n1 => ?_, e2 ⟨a0, a1⟩⟩
  intro l nl
  have s1 := same_new (o := .dK []) nl
  refine ⟨_, rfl, _, rfl, _, rfl, _, _, _, rfl, r, t, p, m, s0, l, [], rfl, rfl, rfl, s1.tup hr1, R, mM, a0, a1, upd_same, List.nodup_nil, (fun x hx => by cases hx), ?_⟩
  rw [upd_upd]
  have ew : wk (stp t p m) (m.toNat + 1 - ([] : List Int).length) [] s0 = rndW t p m s0 := rfl
  rw [ew]
  refine ⟨_, rfl, l, rfl, .inl ⟨_, .inl upd_same⟩, _, rfl, _, DGet.k (k := Sum.inl n) upd_same, ?_⟩
  have s2 : Same H (upd H l (.dK (enumD 0 (rndW t p m s0).1))) := same_new nl
  have q' := q ⟨a0, a1⟩ ⟨n0, n1⟩ _ s2
  unfold stV at q'
  by_cases hx : n ∈ (rndW t p m s0).1
  · rw [enumD_some 0 hx, Nat.zero_add]
    rw [if_pos hx] at q'
    exact q'
  · rw [enumD_none 0 hx]
    rw [if_neg hx] at q'
    exact q'
end
end Tw


namespace Tw
open PySem PySem.Spec PyProof.Rows L2
abbrev s_common_divisor : Stmt := topS 8
theorem sc_common_divisor : FnScope ["one", "other"] ["one", "other"] (defScope s_common_divisor) := ⟨rfl, rfl, rfl, by decide +kernel, rfl, by decide +kernel, by decide +kernel⟩
section
variable {P : Program} {w : World} {K : PySem.W.Frag} {mg : Str → Option Value} {base : Heap}
theorem ok_common_divisor (D : Top K mg "common_divisor" s_common_divisor ["one", "other"]) : Has P w K mg base CX0 1 "common_divisor" ["one", "other"] (sp2 pGcd) := by
  refine D.ok2 sc_common_divisor (fun f cdv A outer s H v1 v2 Q E hr h => ?_)
  obtain ⟨x, y, rfl, rfl, x0, y0, q⟩ := h
  refine ⟨_, (pss_cons (ps_while PassesOwn.never (pt_cmpR op_ne (pv 1) pe_int (nomark _)) (pss_one (ps_par (i := 0) (j := 1) (by rfl) sc_common_divisor.nd rfl rfl (by decide) rfl rfl (pa_cons (pv 1) (pa_cons (pe_op op_mod (pv 0) (pv 1)) pa_nil)) (by rfl))))
 (pss_one (ps_ret (pv 0)))), ?_⟩
  refine ⟨fun k σ H' => ∃ a b : Int, σ = [some (.int a), some (.int b)] ∧ H' = H ∧ 0 ≤ a ∧ 0 ≤ b ∧ b.toNat = k ∧ Int.gcd a b = Int.gcd x y, ⟨y.toNat, x, y, rfl, rfl, x0, y0, rfl, rfl⟩, ?_⟩
  rintro k σ H' ⟨a, b, rfl, rfl, a0, b0, hk, hg⟩
  refine ⟨_, rfl, rfl, _, rfl, ifNI (fun nb => ?_) (fun nb => ?_)⟩
  · have bp : 0 < b := by omega
    have mr := mod_bd a bp
    refine ⟨fun σ' H1 => ∃ k', k' < k ∧ ∃ a b : Int, σ' = [some (.int a), some (.int b)] ∧ H1 = H' ∧ 0 ≤ a ∧ 0 ≤ b ∧ b.toNat = k' ∧ Int.gcd a b = Int.gcd x y, fun _ _ z => z, ?_⟩
    refine ⟨_, rfl, _, rfl, _, rfl, _, _, rfl, rfl, bp, _, _, rfl, (a % b).toNat, by omega, b, a % b, rfl, rfl, b0, mr.1, rfl, (gcd_step a0 bp).trans hg⟩
  · subst nb
    refine ⟨_, rfl, ?_⟩
    have e : ((Int.gcd x y : Nat) : Int) = a := by
      rw [← hg, Int.gcd_zero_right]
      omega
    rw [e] at q
    exact q
end
end Tw


namespace Tw
open PySem PySem.Spec PyProof.Rows L2
abbrev s_inverse : Stmt := topS 9
theorem sc_inverse : FnScope ["number", "bound", "high", "low", "high_factor", "low_factor", "goes_in"] ["number", "bound"] (defScope s_inverse) := ⟨rfl, rfl, rfl, by decide +kernel, rfl, by decide +kernel, by decide +kernel⟩
section
variable {P : Program} {w : World} {K : PySem.W.Frag} {mg : Str → Option Value} {base : Heap}
theorem ok_inverse (D : Top K mg "inverse" s_inverse ["number", "bound"]) : Has P w K mg base CX0 1 "inverse" ["number", "bound"] (sp2 pInv) := by
  refine D.ok2 sc_inverse (fun f cdv A outer s H v1 v2 Q E hr h => ?_)
  obtain ⟨x, m, rfl, rfl, x0, m0, m1, hg, q⟩ := h
  refine ⟨_, (pss_cons (ps_par (i := 2) (j := 3) (by rfl) sc_inverse.nd rfl rfl (by decide) rfl rfl (pa_cons (pv 1) (pa_cons (pe_op op_mod (pv 0) (pv 1)) pa_nil)) (by rfl))
 (pss_cons (ps_asg (pe_tup (pa_cons pe_int (pa_cons pe_int pa_nil))) (pg_tup rfl (pgs_cons (pg_name (i := 4) sc_inverse.nd rfl (.inl rfl)) (pgs_cons (pg_name (i := 5) sc_inverse.nd rfl (.inl rfl)) pgs_nil))))
 (pss_cons (ps_while PassesOwn.never (pt_cmpR op_ne (pv 3) pe_int (nomark _)) (pss_cons (ps_set (i := 6) sc_inverse.nd rfl (.inl rfl) (pe_op op_fdivB (pv 2) (pv 3)))
 (pss_cons (ps_par (i := 2) (j := 3) (by rfl) sc_inverse.nd rfl rfl (by decide) rfl rfl (pa_cons (pv 3) (pa_cons (pe_op op_sub (pv 2) (pe_op op_mulB (pv 6) (pv 3))) pa_nil)) (by rfl))
 (pss_one (ps_par (i := 4) (j := 5) (by rfl) sc_inverse.nd rfl rfl (by decide) rfl rfl (pa_cons (pv 5) (pa_cons (pe_op op_sub (pv 4) (pe_op op_mulB (pv 6) (pv 5))) pa_nil)) (by rfl))))))
 (pss_one (ps_ret (pe_op op_mod (pv 4) (pv 1))))))), ?_⟩
  have xr := mod_bd x m0
  refine ⟨_, rfl, _, rfl, _, rfl, _, _, rfl, rfl, m0, _, _, rfl, ?_⟩
  refine ⟨by show 2 ≤ sizeLine; decide, fun z nz => ⟨z, _, rfl, SqT.of upd_same, rfl, _, _, rfl, _, _, rfl, rfl, ?_⟩⟩
  refine ⟨fun k σ H' => ∃ (hi lo hf lf A B : Int) (y : Option V), σ = [some (.int x), some (.int m), some (.int hi), some (.int lo), some (.int hf), some (.int lf), y] ∧ H' = upd H z (.tup [.int 0, .int 1]) ∧ 0 ≤ lo ∧ 0 < hi ∧ lo.toNat = k ∧ Int.gcd hi lo = 1 ∧ m ∣ hf * x - hi ∧ m ∣ lf * x - lo ∧
    -A ≤ hf ∧ hf ≤ A ∧ -B ≤ lf ∧ lf ≤ B ∧ 0 ≤ A ∧ 0 ≤ B ∧ A * lo + B * hi = m ∧ hi ≤ m ∧ lo ≤ m, ⟨(x % m).toNat, m, x % m, 0, 1, 0, 1, none, rfl, rfl, xr.1, m0, rfl, ?_, ⟨-1, by omega⟩, ⟨x / m, ?_⟩, by omega, by omega, by omega, by omega, by omega, by omega, by omega, by omega, by omega⟩, ?_⟩
  · rw [gcd_step x0 m0]; exact hg
  · have := Int.mul_ediv_add_emod x m
    omega
  rintro k σ H' ⟨hi, lo, hf, lf, A, B, y, rfl, rfl, l0, h0, hk, gg, d1, d2, a1, a2, b1, b2, A0, B0, hm, him, lm⟩
  refine ⟨_, rfl, rfl, _, rfl, ifNI (fun nb => ?_) (fun nb => ?_)⟩
  · have lp : 0 < lo := by omega
    have mr := mod_bd hi lp
    have dv := Int.mul_ediv_add_emod hi lo
    have q0 : 0 ≤ hi / lo := Int.ediv_nonneg (by omega) l0
    have qh : hi / lo ≤ hi := Int.ediv_le_self _ (by omega)
    obtain ⟨qq, eqq⟩ : ∃ qq, qq = hi / lo := ⟨_, rfl⟩
    rw [← eqq] at dv q0 qh
    have e3 : hi - qq * lo = hi % lo := by rw [Int.mul_comm qq lo]; omega
    have Bm : B ≤ m := by
      have h1 := mul_bd B0 (Int.le_refl B) (show (0:Int) ≤ 1 by decide) (show (1:Int) ≤ hi by omega)
      have h2 := Int.mul_nonneg A0 l0
      have h3 := Int.mul_le_mul_of_nonneg_left (show (1:Int) ≤ hi by omega) B0
      omega
    refine ⟨fun σ' H1 => ∃ k', k' < k ∧ ∃ (hi lo hf lf A B : Int) (y : Option V), σ' = [some (.int x), some (.int m), some (.int hi), some (.int lo), some (.int hf), some (.int lf), y] ∧ H1 = upd H z (.tup [.int 0, .int 1]) ∧ 0 ≤ lo ∧ 0 < hi ∧ lo.toNat = k' ∧ Int.gcd hi lo = 1 ∧ m ∣ hf * x - hi ∧ m ∣ lf * x - lo ∧
      -A ≤ hf ∧ hf ≤ A ∧ -B ≤ lf ∧ lf ≤ B ∧ 0 ≤ A ∧ 0 ≤ B ∧ A * lo + B * hi = m ∧ hi ≤ m ∧ lo ≤ m, fun _ _ z => z, ?_⟩
    have qB := Int.mul_nonneg q0 B0
    have ab1 : -(qq * B) ≤ qq * lf := by have := Int.mul_le_mul_of_nonneg_left b1 q0; rw [Int.mul_neg] at this; exact this
    have ab2 : qq * lf ≤ qq * B := Int.mul_le_mul_of_nonneg_left b2 q0
    have f1 : m ∣ (hf - qq * lf) * x - (hi - qq * lo) := by
      obtain ⟨c1, e1⟩ := d1
      obtain ⟨c2, e2⟩ := d2
      exact ⟨c1 - qq * c2, by grind⟩
    have f2 : B * (hi - qq * lo) + (A + qq * B) * lo = m := by rw [← hm]; grind
    have f3 : Int.gcd lo (hi - qq * lo) = 1 := by rw [e3, gcd_step (by omega) lp]; exact gg
    have g1 : 0 ≤ hi - qq * lo ∧ hi - qq * lo < lo := by omega
    have g2 : -(A + qq * B) ≤ hf - qq * lf ∧ hf - qq * lf ≤ A + qq * B ∧ 0 ≤ A + qq * B := by omega
    have g3 : Big qq ∧ Big lo ∧ Big lf := by unfold Big; omega
    subst eqq
    refine ⟨_, rfl, _, rfl, _, _, rfl, rfl, ⟨lp, by omega⟩, ?_⟩
    refine ⟨_, rfl, _, rfl, _, rfl, _, rfl, _, _, rfl, rfl, ⟨g3.1, g3.2.1⟩, _, _, rfl, rfl, _, _, rfl, ?_⟩
    refine ⟨_, rfl, _, rfl, _, rfl, _, rfl, _, _, rfl, rfl, ⟨g3.1, g3.2.2⟩, _, _, rfl, rfl, _, _, rfl, ?_⟩
    refine ⟨(hi - hi / lo * lo).toNat, by omega, lo, hi - hi / lo * lo, lf, hf - hi / lo * lf, B, A + hi / lo * B, some (.int (hi / lo)), rfl, rfl, g1.1, lp, rfl, f3, d2, f1, b1, b2, g2.1, g2.2.1, B0, g2.2.2, f2, lm, by omega⟩
  · subst nb
    rw [Int.gcd_zero_right] at gg
    have h1 : hi = 1 := by omega
    subst h1
    have vr := mod_bd hf m0
    refine ⟨_, rfl, _, rfl, _, _, rfl, rfl, m0, q _ _ (same_new nz) vr.1 vr.2 ?_⟩
    rw [Int.mul_emod, Int.emod_emod, ← Int.mul_emod]
    obtain ⟨c1, e1⟩ := d1
    rw [show x * hf = 1 + m * c1 by grind, Int.add_mul_emod_self_left]
end
end Tw


namespace Tw
open PySem PySem.Spec PyProof.Rows L2
abbrev s_chained : Stmt := topS 15
theorem sc_chained : FnScope ["first", "second", "times", "plus", "bound", "more_times", "more_plus"] ["first", "second"] (defScope s_chained) := ⟨rfl, rfl, rfl, by decide +kernel, rfl, by decide +kernel, by decide +kernel⟩
abbrev s_rule_of_steps : Stmt := topS 14
theorem sc_rule_of_steps : FnScope ["rule", "steps", "bound", "done", "doubled", "left"] ["rule", "steps"] (defScope s_rule_of_steps) := ⟨rfl, rfl, rfl, by decide +kernel, rfl, by decide +kernel, by decide +kernel⟩
section
variable {P : Program} {w : World} {K : PySem.W.Frag} {mg : Str → Option Value} {base : Heap}
theorem ok_chained (D : Top K mg "chained" s_chained ["first", "second"]) : Has P w K mg base CX0 1 "chained" ["first", "second"] (sp2 (pChained K)) := by
  refine D.ok2 sc_chained (fun f cdv A outer s H v1 v2 Q E hr h => ?_)
  obtain ⟨r1, r2, t1, p1, t2, p2, m, rfl, rfl, h1, h2, R1, R2, q⟩ := h
  refine ⟨_, (pss_cons (ps_asg (pv 0) (pg_tup rfl (pgs_cons (pg_name (i := 2) sc_chained.nd rfl (.inl rfl)) (pgs_cons (pg_name (i := 3) sc_chained.nd rfl (.inl rfl)) (pgs_cons (pg_name (i := 4) sc_chained.nd rfl (.inl rfl)) pgs_nil)))))
 (pss_cons (ps_par (i := 5) (j := 6) (by rfl) sc_chained.nd rfl rfl (by decide) rfl rfl (pa_cons (pe_ix ix_tup (pv 1) pe_int (fun _ _ => rfl)) (pa_cons (pe_ix ix_tup (pv 1) pe_int (fun _ _ => rfl)) pa_nil)) (by rfl))
 (pss_one (ps_ret (pe_tup (pa_cons (pe_op op_mod (pe_op op_mulB (pv 5) (pv 2)) (pv 4)) (pa_cons (pe_op op_mod (pe_op op_add (pe_op op_mulB (pv 5) (pv 3)) (pv 6)) (pv 4)) (pa_cons (pv 4) pa_nil)))))))), ?_⟩
  have a1 := R1.t0
  have a2 := R1.t1
  have a3 := R1.p0
  have a4 := R1.p1
  have a5 := R1.b2
  have a6 := R1.b1
  have b1 := R2.t0
  have b2 := R2.t1
  refine ⟨_, rfl, r1, _, rfl, h1, rfl, _, _, rfl, _, _, rfl, _, _, rfl, rfl, ?_⟩
  refine ⟨_, rfl, r2, _, 0, .int t2, rfl, rfl, h2, rfl, _, rfl, r2, _, 1, .int p2, rfl, rfl, h2, rfl, _, _, rfl, ?_⟩
  refine ⟨_, rfl, _, rfl, _, _, rfl, rfl, ⟨by unfold Big; omega, by unfold Big; omega⟩, _, rfl, _, _, rfl, rfl, (show (0 : Int) < m by omega), ?_⟩
  refine ⟨_, rfl, _, rfl, _, _, rfl, rfl, ⟨by unfold Big; omega, by unfold Big; omega⟩, _, rfl, _, _, rfl, rfl, _, rfl, _, _, rfl, rfl, (show (0 : Int) < m by omega), ?_⟩
  refine ⟨_, rfl, by show 3 ≤ sizeLine; decide, fun u nu => q _ u (same_new nu) nu upd_same⟩
theorem rs_one {t p m : Int} (R : Rule t p m) : rsT t m 1 = t ∧ rsP t p m 1 = p := by
  constructor
  · unfold rsT
    rw [Int.pow_one]
    exact Int.emod_eq_of_lt R.t0 R.t1
  · unfold rsP
    show p * (0 + t ^ 0) % m = p
    rw [Int.pow_zero, Int.zero_add, Int.mul_one]
    exact Int.emod_eq_of_lt R.p0 R.p1
theorem ok_rule_of_steps (D : Top K mg "rule_of_steps" s_rule_of_steps ["rule", "steps"]) (h_chained : Has P w K mg base CX0 1 "chained" ["first", "second"] (sp2 (pChained K))) : Has P w K mg base CX0 2 "rule_of_steps" ["rule", "steps"] (sp2 (pRos K)) := by
  refine D.ok2 sc_rule_of_steps (fun f cdv A outer s H v1 v2 Q E hr h => ?_)
  obtain ⟨r, t, p, m, n, rfl, rfl, h1, R, n0, q⟩ := h
  refine ⟨_, (pss_cons (ps_set (i := 2) sc_rule_of_steps.nd rfl (.inl rfl) (pe_ix ix_tup (pv 0) pe_int (fun _ _ => rfl)))
 (pss_cons (ps_set (i := 3) sc_rule_of_steps.nd rfl (.inl rfl) (pe_tup (pa_cons (pe_op op_mod pe_int (pv 2)) (pa_cons pe_int (pa_cons (pv 2) pa_nil)))))
 (pss_cons (ps_set (i := 4) sc_rule_of_steps.nd rfl (.inl rfl) (pv 0))
 (pss_cons (ps_set (i := 5) sc_rule_of_steps.nd rfl (.inl rfl) (pv 1))
 (pss_cons (ps_while PassesOwn.never (pt_cmpR op_gt (pv 5) pe_int (nomark _)) (C8.pss_cut (ps_if (pt_cmpR op_eq (pe_op op_and (pv 5) pe_int) pe_int (nomark _)) (pss_one (ps_set (i := 3) sc_rule_of_steps.nd rfl (.inl rfl) (pe_own h_chained (hr.mono (by decide)) pass0 (pa_cons (pv 3) (pa_cons (pv 4) pa_nil))))) pss_nil)
 (pss_cons (ps_set (i := 4) sc_rule_of_steps.nd rfl (.inl rfl) (pe_own h_chained (hr.mono (by decide)) pass0 (pa_cons (pv 4) (pa_cons (pv 4) pa_nil))))
 (pss_one (ps_set (i := 5) sc_rule_of_steps.nd rfl (.inl rfl) (pe_op op_fdivB (pv 5) pe_int))))))
 (pss_one (ps_ret (pv 3)))))))), ?_⟩
  have m0 : 0 < m := by have := R.b1; omega
  refine ⟨_, rfl, r, _, 2, .int m, rfl, rfl, h1, rfl, ?_⟩
  refine ⟨_, rfl, _, _, rfl, rfl, m0, _, rfl, by show 3 ≤ sizeLine; decide, fun dn0 nd0 => ?_⟩
  have s1 := same_new (o := .tup [.int (1 % m), .int 0, .int m]) nd0
  refine ⟨_, rfl, _, rfl, ?_⟩
  obtain ⟨o1, o2⟩ := rs_one R
  refine ⟨fun k σ H' => ∃ (dn db : Addr) (l : Int) (a c : Nat), σ = [some (.ref r), some (.int n), some (.int m), some (.ref dn), some (.ref db), some (.int l)] ∧ Same H H' ∧ H' dn = some (.tup [.int (rsT t m a), .int (rsP t p m a), .int m]) ∧ SqT K H' db [.int (rsT t m c), .int (rsP t p m c), .int m] ∧ 0 ≤ l ∧ a + c * l.toNat = n.toNat ∧ k = l.toNat,
    ⟨n.toNat, dn0, r, n, 0, 1, rfl, s1, ?_, ?_, n0, by omega, rfl⟩, ?_⟩
  · rw [upd_same]
    unfold rsT rsP
    rw [Int.pow_zero, show geo t 0 = 0 from rfl, Int.mul_zero, Int.zero_emod]
  · rw [o1, o2]
    exact s1.tup h1
  rintro k σ H1 ⟨dn, db, l, a, c, rfl, sm, hdn, hdb, l0, hn, rfl⟩
  refine ⟨_, rfl, _, _, rfl, rfl, _, rfl, ifD (fun lp => ?_) (fun lp => ?_)⟩
  · refine ⟨fun σ' H' => ∃ k', k' < l.toNat ∧ ∃ (dn db : Addr) (l : Int) (a c : Nat), σ' = [some (.ref r), some (.int n), some (.int m), some (.ref dn), some (.ref db), some (.int l)] ∧ Same H H' ∧ H' dn = some (.tup [.int (rsT t m a), .int (rsP t p m a), .int m]) ∧ SqT K H' db [.int (rsT t m c), .int (rsP t p m c), .int m] ∧ 0 ≤ l ∧ a + c * l.toNat = n.toNat ∧ k' = l.toNat, fun _ _ z => z, ?_⟩
    refine ⟨fun σ' H' => ∃ (dn : Addr) (a2 : Nat), σ' = [some (.ref r), some (.int n), some (.int m), some (.ref dn), some (.ref db), some (.int l)] ∧ Same H H' ∧ H' dn = some (.tup [.int (rsT t m a2), .int (rsP t p m a2), .int m]) ∧ SqT K H' db [.int (rsT t m c), .int (rsP t p m c), .int m] ∧ a2 + (c + c) * (l / 2).toNat = n.toNat, ?_, ?_⟩
    · refine ⟨_, rfl, _, _, rfl, rfl, rfl, _, rfl, ifI (fun e => ?_) (fun e => ?_)⟩
      · rw [bitAnd_m1] at e
        refine ⟨_, rfl, _, rfl, _, _, rfl, dn, db, _, _, _, _, m, rfl, rfl, SqT.of hdn, hdb, R.rs a, R.rs c, fun H2 u s2 nu hu => ?_⟩
        rw [rs_T, rs_P] at hu
        refine ⟨u, a + c, rfl, sm.trans s2, hu, s2.tup hdb, ?_⟩
        have e2 : l.toNat = 2 * (l / 2).toNat + 1 := by omega
        rw [← hn, e2]
        generalize (l / 2).toNat = z
        grind
      · rw [bitAnd_m1] at e
        refine ⟨dn, a, rfl, sm, hdn, hdb, ?_⟩
        have e2 : l.toNat = 2 * (l / 2).toNat := by omega
        rw [← hn, e2]
        generalize (l / 2).toNat = z
        grind
    · rintro σ' H2 ⟨dn2, a2, rfl, sm2, hdn2, hdb2, hn2⟩
      refine ⟨_, rfl, _, rfl, _, _, rfl, db, db, _, _, _, _, m, rfl, rfl, hdb2, hdb2, R.rs c, R.rs c, fun H3 u s3 nu hu => ?_⟩
      rw [rs_T, rs_P] at hu
      refine ⟨_, rfl, _, _, rfl, rfl, ⟨by decide, by decide⟩, (l / 2).toNat, by omega, dn2, u, l / 2, a2, c + c, rfl, sm2.trans s3, s3 _ _ hdn2, SqT.of hu, by omega, hn2, rfl⟩
  · have l00 : l = 0 := by omega
    subst l00
    have ea : a = n.toNat := by
      rw [← hn]
      show a = a + c * 0
      omega
    subst ea
    exact ⟨_, rfl, q _ dn sm hdn⟩
end
end Tw


namespace Tw
open PySem PySem.Spec PyProof.Rows L2
abbrev s_rule_back : Stmt := topS 13
theorem sc_rule_back : FnScope ["rule", "times", "plus", "bound", "undone"] ["rule"] (defScope s_rule_back) := ⟨rfl, rfl, rfl, by decide +kernel, rfl, by decide +kernel, by decide +kernel⟩
abbrev s_jumped : Stmt := topS 12
theorem sc_jumped : FnScope ["rule", "start", "steps"] ["rule", "start", "steps"] (defScope s_jumped) := ⟨rfl, rfl, rfl, by decide +kernel, rfl, by decide +kernel, by decide +kernel⟩
section
variable {P : Program} {w : World} {K : PySem.W.Frag} {mg : Str → Option Value} {base : Heap}
theorem ok_rule_back {CB : Addr} (D : Top K mg "rule_back" s_rule_back ["rule"]) (h_common_divisor : Has P w K mg base CX0 1 "common_divisor" ["one", "other"] (sp2 pGcd)) (h_inverse : Has P w K mg base CX0 1 "inverse" ["number", "bound"] (sp2 pInv))
    (x_NoBack : PySem.W.excIn K CB [.type "ValueError", .type "Exception", .type "BaseException", .type "object"] "ValueError.__new__" = true) (g_NoBack : mg "NoBack" = some (.ref CB)) (k_NoBack : PySem.W.keepIn K (.ref CB) = true) (e_NoBack : PySem.W.subIn K (.ref CB) (.type "BaseException") = some true) (y_NoBack : PySem.W.typeIn K (.ref CB) = some (.type "type")) :
    Has P w K mg base (L2.CX P w) 2 "rule_back" ["rule"] (sp1 (pRback K CB)) := by
  refine D.ok1X sc_rule_back (fun f cdv A outer s H v1 Q E hr h => ?_)
  obtain ⟨r, t, p, m, rfl, h1, R, q, e⟩ := h
  refine ⟨_, (pss_cons (ps_asg (pv 0) (pg_tup rfl (pgs_cons (pg_name (i := 1) sc_rule_back.nd rfl (.inl rfl)) (pgs_cons (pg_name (i := 2) sc_rule_back.nd rfl (.inl rfl)) (pgs_cons (pg_name (i := 3) sc_rule_back.nd rfl (.inl rfl)) pgs_nil)))))
 (pss_cons (ps_if (pt_cmpR op_ne (pe_own h_common_divisor (hr.mono (by decide)) pass0 (pa_cons (pv 1) (pa_cons (pv 3) pa_nil))) pe_int (nomark _)) (pss_one (ps_raise rfl (takes_of rfl rfl rfl rfl) (pmk_own PySem.F.excBase_ValueError x_NoBack g_NoBack k_NoBack (raises_own e_NoBack y_NoBack) (by rfl)))) pss_nil)
 (pss_cons (ps_set (i := 4) sc_rule_back.nd rfl (.inl rfl) (pe_own h_inverse (hr.mono (by decide)) pass0 (pa_cons (pv 1) (pa_cons (pv 3) pa_nil))))
 (pss_one (ps_ret (pe_tup (pa_cons (pv 4) (pa_cons (pe_op op_mod (pe_op op_mulB (pe_un un_neg (pv 4)) (pv 2)) (pv 3)) (pa_cons (pv 3) pa_nil))))))))), ?_⟩
  have m0 : 0 < m := by have := R.b1; omega
  have a1 := R.t0
  have a2 := R.t1
  have a3 := R.p0
  have a4 := R.p1
  have a5 := R.b2
  refine ⟨_, rfl, r, _, rfl, h1, rfl, _, _, rfl, _, _, rfl, _, _, rfl, rfl, ?_⟩
  refine ⟨_, rfl, _, rfl, _, _, rfl, t, m, rfl, rfl, R.t0, by omega, rfl, _, rfl, ifNI (fun ne => ?_) (fun ne => ?_)⟩
  · exact e (fun z => ne (by rw [z]; rfl))
  · have g1 : Int.gcd t m = 1 := by omega
    refine ⟨_, rfl, _, rfl, _, _, rfl, t, m, rfl, rfl, R.t0, m0, R.b2, g1, fun H0 u s0 u0 u1 hu => ?_⟩
    refine ⟨_, rfl, _, rfl, _, rfl, _, rfl, _, _, rfl, rfl, ⟨by unfold Big; omega, by unfold Big; omega⟩, _, rfl, _, _, rfl, rfl, m0, ?_⟩
    exact ⟨_, rfl, by show 3 ≤ sizeLine; decide, fun x nx => q g1 _ x u (s0.trans (same_new nx)) (s0.free nx) u0 u1 hu upd_same⟩
theorem ok_jumped {CN CB : Addr} (D : Top K mg "jumped" s_jumped ["rule", "start", "steps"]) (h_check_number : Has P w K mg base (L2.CX P w) 3 "check_number" ["number", "bound"] (sp2 (pCheck CN))) (h_next_of : Has P w K mg base (L2.CX P w) 4 "next_of" ["rule", "number"] (sp2 (pNextOf K CN)))
    (h_rule_of_steps : Has P w K mg base CX0 2 "rule_of_steps" ["rule", "steps"] (sp2 (pRos K))) (h_rule_back : Has P w K mg base (L2.CX P w) 2 "rule_back" ["rule"] (sp1 (pRback K CB))) : Has P w K mg base (L2.CX P w) 5 "jumped" ["rule", "start", "steps"] (sp3 (pJump K CN CB)) := by
  refine D.ok3X sc_jumped (fun f cdv A outer s H v1 v2 v3 Q E hr h => ?_)
  obtain ⟨r, t, p, m, s0, n, rfl, rfl, rfl, h1, R, eN, qa, qb, eB⟩ := h
  refine ⟨_, (pss_cons (ps_expr (pe_own h_check_number (hr.mono (by decide)) (passes_call (takes_of rfl rfl rfl rfl) (fun _ _ _ _ z => z)) (pa_cons (pv 1) (pa_cons (pe_ix ix_tup (pv 0) pe_int (fun _ _ => rfl)) pa_nil))))
 (pss_cons (ps_if (pt_cmpR op_lt (pv 2) pe_int (nomark _)) (pss_one (ps_ret (pe_own h_next_of (hr.mono (by decide)) (passes_call (takes_of rfl rfl rfl rfl) (fun _ _ _ _ z => z)) (pa_cons (pe_own h_rule_of_steps (hr.mono (by decide)) pass0 (pa_cons (pe_own h_rule_back (hr.mono (by decide)) (passes_call (takes_of rfl rfl rfl rfl) (fun _ _ _ _ z => z)) (pa_cons (pv 0) pa_nil)) (pa_cons (pe_un un_neg (pv 2)) pa_nil))) (pa_cons (pv 1) pa_nil))))) pss_nil)
 (pss_one (ps_ret (pe_own h_next_of (hr.mono (by decide)) (passes_call (takes_of rfl rfl rfl rfl) (fun _ _ _ _ z => z)) (pa_cons (pe_own h_rule_of_steps (hr.mono (by decide)) pass0 (pa_cons (pv 0) (pa_cons (pv 2) pa_nil))) (pa_cons (pv 1) pa_nil))))))), ?_⟩
  have m0 : 0 < m := by have := R.b1; omega
  refine ⟨_, rfl, _, rfl, r, _, 2, .int m, rfl, rfl, h1, rfl, _, _, rfl, s0, m, rfl, rfl, fun a0 a1 => ?_, eN⟩
  refine ⟨_, rfl, _, _, rfl, rfl, _, rfl, ifD (fun nn => ?_) (fun nn => ?_)⟩
  · refine ⟨_, rfl, _, rfl, r, t, p, m, rfl, h1, R, fun g H1 u x s1 nu u0 u1 hu hx => ?_, fun g => eB ⟨a0, a1⟩ nn g⟩
    have pr := mod_bd (-x * p) m0
    have R2 : Rule x (-x * p % m) m := ⟨R.b1, R.b2, u0, u1, pr.1, pr.2⟩
    refine ⟨_, rfl, _, rfl, _, _, rfl, u, x, _, m, -n, rfl, rfl, SqT.of hx, R2, by omega, fun H2 u2 s2 hx2 => ?_⟩
    refine ⟨_, rfl, _, _, rfl, u2, _, _, m, s0, rfl, rfl, SqT.of hx2, R2.rs _, fun _ _ => ?_, fun z => absurd ⟨a0, a1⟩ z⟩
    rw [stp_rs]
    exact qb ⟨a0, a1⟩ nn g _ _ (s1.trans s2) (back_of m0 hu s0 a0 a1 _)
  · refine ⟨_, rfl, _, rfl, _, _, rfl, r, t, p, m, n, rfl, rfl, h1, R, by omega, fun H2 u2 s2 hx2 => ?_⟩
    refine ⟨_, rfl, _, _, rfl, u2, _, _, m, s0, rfl, rfl, SqT.of hx2, R.rs _, fun _ _ => ?_, fun z => absurd ⟨a0, a1⟩ z⟩
    rw [stp_rs]
    exact qa ⟨a0, a1⟩ (by omega) _ s2
end
end Tw


namespace Tw
open PySem PySem.Spec PyProof.Rows L2
abbrev s_has_each_prime_of : Stmt := topS 22
theorem sc_has_each_prime_of : FnScope ["bound", "number", "left", "shared"] ["bound", "number"] (defScope s_has_each_prime_of) := ⟨rfl, rfl, rfl, by decide +kernel, rfl, by decide +kernel, by decide +kernel⟩
abbrev s_is_one_round : Stmt := topS 21
theorem sc_is_one_round : FnScope ["rule", "times", "plus", "bound"] ["rule"] (defScope s_is_one_round) := ⟨rfl, rfl, rfl, by decide +kernel, rfl, by decide +kernel, by decide +kernel⟩
section
variable {P : Program} {w : World} {K : PySem.W.Frag} {mg : Str → Option Value} {base : Heap}
theorem ok_has_each (D : Top K mg "has_each_prime_of" s_has_each_prime_of ["bound", "number"]) (h_common_divisor : Has P w K mg base CX0 1 "common_divisor" ["one", "other"] (sp2 pGcd)) : Has P w K mg base CX0 2 "has_each_prime_of" ["bound", "number"] (sp2 pEach) := by
  refine D.ok2 sc_has_each_prime_of (fun f cdv A outer s H v1 v2 Q E hr h => ?_)
  obtain ⟨m, x, rfl, rfl, m0, m1, x0, q⟩ := h
  refine ⟨_, (pss_cons (ps_set (i := 2) sc_has_each_prime_of.nd rfl (.inl rfl) (pv 0))
 (pss_cons (ps_set (i := 3) sc_has_each_prime_of.nd rfl (.inl rfl) (pe_own h_common_divisor (hr.mono (by decide)) pass0 (pa_cons (pv 2) (pa_cons (pv 1) pa_nil))))
 (pss_cons (ps_while PassesOwn.never (pt_cmpR op_ne (pv 3) pe_int (nomark _)) (pss_cons (ps_set (i := 2) sc_has_each_prime_of.nd rfl (.inl rfl) (pe_op op_fdivB (pv 2) (pv 3)))
 (pss_one (ps_set (i := 3) sc_has_each_prime_of.nd rfl (.inl rfl) (pe_own h_common_divisor (hr.mono (by decide)) pass0 (pa_cons (pv 2) (pa_cons (pv 1) pa_nil)))))))
 (pss_one (ps_ret (pe_cmpR op_eq (pv 2) pe_int (nomark _))))))), ?_⟩
  refine ⟨_, rfl, _, rfl, _, rfl, _, _, rfl, m, x, rfl, rfl, by omega, x0, ?_⟩
  refine ⟨fun k σ H' => ∃ l : Int, σ = [some (.int m), some (.int x), some (.int l), some (.int (Int.gcd l x : Nat))] ∧ H' = H ∧ 0 < l ∧ l ≤ m ∧ l ∣ m ∧ l.toNat = k ∧ (∀ q, Prm q → q ∣ m → q ∣ l ∨ q ∣ x), ⟨m.toNat, m, rfl, rfl, m0, Int.le_refl _, ⟨1, by omega⟩, rfl, fun q _ h => .inl h⟩, ?_⟩
  rintro k σ H' ⟨l, rfl, rfl, l0, lm, ld, hk, hp⟩
  have g1 : ((Int.gcd l x : Nat) : Int) ∣ l := Int.gcd_dvd_left ..
  have g2 : ((Int.gcd l x : Nat) : Int) ∣ x := Int.gcd_dvd_right ..
  have g0 : 0 < ((Int.gcd l x : Nat) : Int) := by
    have : Int.gcd l x ≠ 0 := fun z => by
      have := (Int.gcd_eq_zero_iff.mp z).1
      omega
    omega
  have gl := Int.le_of_dvd l0 g1
  refine ⟨_, rfl, rfl, _, rfl, ifNI (fun ne => ?_) (fun e => ?_)⟩
  · have ed := Int.mul_ediv_cancel' g1
    have l20 : 0 < l / (Int.gcd l x : Nat) := Int.ediv_pos_of_pos_of_dvd l0 (by omega) g1
    have l2l : l / (Int.gcd l x : Nat) < l := by
      have h3 := Int.mul_le_mul_of_nonneg_right (show (2 : Int) ≤ (Int.gcd l x : Nat) by omega) (Int.le_of_lt l20)
      omega
    refine ⟨fun σ' H1 => ∃ k', k' < k ∧ ∃ l : Int, σ' = [some (.int m), some (.int x), some (.int l), some (.int (Int.gcd l x : Nat))] ∧ H1 = H' ∧ 0 < l ∧ l ≤ m ∧ l ∣ m ∧ l.toNat = k' ∧ (∀ q, Prm q → q ∣ m → q ∣ l ∨ q ∣ x), fun _ _ z => z, ?_⟩
    refine ⟨_, rfl, _, rfl, _, _, rfl, rfl, ⟨g0, by omega⟩, ?_⟩
    refine ⟨_, rfl, _, rfl, _, _, rfl, _, x, rfl, rfl, by omega, x0, ?_⟩
    refine ⟨(l / (Int.gcd l x : Nat)).toNat, by omega, l / (Int.gcd l x : Nat), rfl, rfl, l20, by omega, Int.dvd_trans ⟨((Int.gcd l x : Nat) : Int), by rw [Int.mul_comm]; exact ed.symm⟩ ld, rfl, fun q hq hd => ?_⟩
    rcases hp q hq hd with h | h
    · rw [← ed] at h
      rcases prm_mul hq h with h | h
      · exact .inr (Int.dvd_trans h g2)
      · exact .inl h
    · exact .inr h
  · refine ⟨_, rfl, rfl, q _ ?_⟩
    have gg : Int.gcd l x = 1 := by omega
    constructor
    · intro h r hr hd
      have e1 : l = 1 := V.int.inj (of_decide_eq_true h)
      rcases hp r hr hd with h | h
      · rw [e1] at h
        have := Int.le_of_dvd (by decide) h
        have := hr.1
        omega
      · exact h
    · intro hA
      refine decide_eq_true ?_
      congr 1
      refine Classical.byContradiction fun hn => ?_
      obtain ⟨r, hr, hrl⟩ := prm_of (n := l) (by omega)
      have h2 := hA r hr (Int.dvd_trans hrl ld)
      have d := Int.dvd_coe_gcd hrl h2
      rw [gg] at d
      have := Int.le_of_dvd (by decide) d
      have := hr.1
      omega
theorem ok_is_one_round (D : Top K mg "is_one_round" s_is_one_round ["rule"]) (h_common_divisor : Has P w K mg base CX0 1 "common_divisor" ["one", "other"] (sp2 pGcd)) (h_has_each_prime_of : Has P w K mg base CX0 2 "has_each_prime_of" ["bound", "number"] (sp2 pEach)) : Has P w K mg base CX0 3 "is_one_round" ["rule"] (sp1 (pOneR K)) := by
  refine D.ok1 sc_is_one_round (fun f cdv A outer s H v1 Q E hr h => ?_)
  obtain ⟨r, t, p, m, rfl, h1, R, q⟩ := h
  refine ⟨_, (pss_cons (ps_asg (pv 0) (pg_tup rfl (pgs_cons (pg_name (i := 1) sc_is_one_round.nd rfl (.inl rfl)) (pgs_cons (pg_name (i := 2) sc_is_one_round.nd rfl (.inl rfl)) (pgs_cons (pg_name (i := 3) sc_is_one_round.nd rfl (.inl rfl)) pgs_nil)))))
 (pss_cons (ps_if (pt_cmpR op_ne (pe_own h_common_divisor (hr.mono (by decide)) pass0 (pa_cons (pv 2) (pa_cons (pv 3) pa_nil))) pe_int (nomark _)) (pss_one (ps_ret pe_bl)) pss_nil)
 (pss_cons (ps_if (PW.pt (pw_and (pt_cmpR op_eq (pe_op op_mod (pv 3) pe_int) pe_int (nomark _)) (pw_and1 (pt_cmpR op_ne (pe_op op_mod (pv 1) pe_int) pe_int (nomark _))))) (pss_one (ps_ret pe_bl)) pss_nil)
 (pss_one (ps_ret (pe_own h_has_each_prime_of (hr.mono (by decide)) pass0 (pa_cons (pv 3) (pa_cons (pe_op op_mod (pe_op op_sub (pv 1) pe_int) (pv 3)) pa_nil)))))))), ?_⟩
  have m0 : 0 < m := by have := R.b1; omega
  have p0 := R.p0
  have b2 := R.b2
  refine ⟨_, rfl, r, _, rfl, h1, rfl, _, _, rfl, _, _, rfl, _, _, rfl, rfl, ?_⟩
  refine ⟨_, rfl, _, rfl, _, _, rfl, p, m, rfl, rfl, p0, by omega, rfl, _, rfl, ifNI (fun ne => ?_) (fun e1 => ?_)⟩
  · exact q false ⟨fun h => absurd h Bool.false_ne_true, fun h => absurd (show ((Int.gcd p m : Nat) : Int) = 1 by rw [h.1]; rfl) ne⟩
  have g1 : Int.gcd p m = 1 := by omega
  have fin : (4 ∣ m → 4 ∣ t - 1) → ∀ b : Bool, (b = true ↔ AllP m ((t - 1) % m)) → (b = true ↔ Cls t p m) := fun h4 b hb => by
    rw [hb, allP_mod]
    exact ⟨fun h => ⟨g1, h, h4⟩, fun h => h.2.1⟩
  have xr := mod_bd (t - 1) m0
  refine ⟨_, rfl, _, _, rfl, rfl, (by show (0 : Int) < 4; decide), rfl, _, rfl, ifI (fun e4 => ?_) (fun n4 => ifF rfl ?_)⟩
  · refine ⟨_, rfl, _, _, rfl, rfl, (by show (0 : Int) < 4; decide), rfl, _, rfl, ifNI (fun n1 => ?_) (fun e5 => ?_)⟩
    · refine q false ⟨fun h => absurd h Bool.false_ne_true, fun h => ?_⟩
      obtain ⟨c, hc⟩ := h.2.2 (Int.dvd_of_emod_eq_zero e4)
      omega
    · refine ⟨_, rfl, _, rfl, _, _, rfl, rfl, _, rfl, _, _, rfl, rfl, m0, _, _, rfl, m, _, rfl, rfl, m0, b2, xr.1, fun b hb => q b (fin (fun _ => ⟨t / 4, by omega⟩) b hb)⟩
  · refine ⟨_, rfl, _, rfl, _, _, rfl, rfl, _, rfl, _, _, rfl, rfl, m0, _, _, rfl, m, _, rfl, rfl, m0, b2, xr.1, fun b hb => q b (fin (fun h4 => absurd (Int.emod_eq_zero_of_dvd h4) n4) b hb)⟩
end
end Tw


namespace Tw
open PySem PySem.Spec PyProof.Rows L2
abbrev s_start_right : Stmt := topS 31
theorem sc_start_right : FnScope ["deck", "rule", "start", "rounds", "tail", "length", "at", "ahead", "far", "other", "more", "place", "one", "many"] ["deck", "rule", "start", "rounds"] (defScope s_start_right) := ⟨rfl, rfl, rfl, by decide +kernel, rfl, by decide +kernel, by decide +kernel⟩
abbrev s_law : Stmt := topS 32
theorem sc_law : FnScope ["script", "deck", "turn", "rule", "rounds", "leap", "left", "k", "one", "length", "many"] ["script"] (defScope s_law) := ⟨rfl, rfl, rfl, by decide +kernel, rfl, by decide +kernel, by decide +kernel⟩
section
variable {P : Program} {w : World} {K : PySem.W.Frag} {mg : Str → Option Value} {base : Heap}
theorem ok_start_right {CN CB : Addr} (D : Top K mg "_law_start_right" s_start_right ["deck", "rule", "start", "rounds"]) (h_next : Has P w K mg base CX0 2 "_law_next" ["deck", "many"] (sp2 (pNext 1)))
    (h_round_from : Has P w K mg base (L2.CX P w) 6 "round_from" ["rule", "start"] (sp2 (pRound K CN))) (h_jumped : Has P w K mg base (L2.CX P w) 5 "jumped" ["rule", "start", "steps"] (sp3 (pJump K CN CB)))
    (h_steps_to : Has P w K mg base (L2.CX P w) 6 "steps_to" ["rule", "start", "number"] (sp3 (pSteps K CN))) (h_next_of : Has P w K mg base (L2.CX P w) 4 "next_of" ["rule", "number"] (sp2 (pNextOf K CN)))
    (h_rule_of_steps : Has P w K mg base CX0 2 "rule_of_steps" ["rule", "steps"] (sp2 (pRos K))) (z_max : mg "max" = none) : Has P w K mg base CX0 7 "_law_start_right" ["deck", "rule", "start", "rounds"] (sp4 (pStart10 K)) := by
  refine D.ok4 sc_start_right (fun f cdv A outer s H v1 v2 v3 v4 Q E hr h => ?_)
  obtain ⟨d, dn, r, t, p, m, s0, q0, ps, rfl, rfl, rfl, rfl, D0, dl, hr0, R, mM, s00, s01, T0, R0, q⟩ := h
  refine ⟨_, (pss_cons (ps_asg (pe_own h_round_from (hr.mono (by decide)) passL (pa_cons (pv 1) (pa_cons (pv 2) pa_nil))) (pg_tup rfl (pgs_cons (pg_name (i := 4) sc_start_right.nd rfl (.inl rfl)) (pgs_cons (pg_name (i := 5) sc_start_right.nd rfl (.inl rfl)) pgs_nil))))
 (pss_cons (ps_set (i := 6) sc_start_right.nd rfl (.inl rfl) (pe_own h_jumped (hr.mono (by decide)) passL (pa_cons (pv 1) (pa_cons (pv 2) (pa_cons (pv 4) pa_nil)))))
 (pss_cons (ps_if (PW.pt (pw_or (pt_cmpR op_ne (pe_own h_jumped (hr.mono (by decide)) passL (pa_cons (pv 1) (pa_cons (pv 6) (pa_cons (pv 5) pa_nil)))) (pv 6) (nomark _)) (pw_or1 (pt_cmpR op_ne (pe_own h_steps_to (hr.mono (by decide)) passL (pa_cons (pv 1) (pa_cons (pe_own h_next_of (hr.mono (by decide)) passL (pa_cons (pv 1) (pa_cons (pv 6) pa_nil))) (pa_cons (pv 6) pa_nil)))) (pe_op op_sub (pv 5) pe_int) (nomark _))))) (pss_one (ps_ret pe_bl)) pss_nil)
 (C8.pss_cut (ps_if (pt_cmpR op_gt (pv 4) pe_int (nomark _)) (pss_cons (ps_set (i := 7) sc_start_right.nd rfl (.inl rfl) (pe_own h_jumped (hr.mono (by decide)) passL (pa_cons (pv 1) (pa_cons (pv 2) (pa_cons (pe_op op_sub (pv 4) pe_int) pa_nil)))))
 (pss_one (ps_if (PW.pt (pw_or (pt_cmpR op_notN (pe_own h_steps_to (hr.mono (by decide)) passL (pa_cons (pv 1) (pa_cons (pe_own h_next_of (hr.mono (by decide)) passL (pa_cons (pv 1) (pa_cons (pv 7) pa_nil))) (pa_cons (pv 7) pa_nil)))) pe_non (nomark _)) (pw_or1 (pt_cmpR (op_neD hr.units) (pe_own h_round_from (hr.mono (by decide)) passL (pa_cons (pv 1) (pa_cons (pv 7) pa_nil))) (pe_tup (pa_cons pe_int (pa_cons (pv 5) pa_nil))) (nomark _))))) (pss_one (ps_ret pe_bl)) pss_nil))) pss_nil)
 (pss_cons (ps_if (PW.pt (pw_or (pt_cmpR op_ne (pe_own h_next_of (hr.mono (by decide)) passL (pa_cons (pe_own h_rule_of_steps (hr.mono (by decide)) pass0 (pa_cons (pv 1) (pa_cons (pv 5) pa_nil))) (pa_cons (pv 6) pa_nil))) (pv 6) (nomark _)) (pw_or1 (pt_cmpR op_notIn_seq (pv 5) (pe_lc (own := [("one", 12), ("many", 13)]) (by rfl) sc_start_right.nd (pi_tup (pv 3)) (blkOk_by (own := [("one", 12), ("many", 13)]) (N := ["deck", "rule", "start", "rounds", "tail", "length", "at", "ahead", "far", "other", "more", "place", "one", "many"]) (sc := defScope s_start_right) (by decide +kernel)) (fun _ _ _ _ _ => tup_in (K := K) (n := 2) rfl rfl (pgs_cons (pg_name (i := 12) sc_start_right.nd rfl (Or.inl rfl)) (pgs_cons (pg_name (i := 13) sc_start_right.nd rfl (Or.inl rfl)) pgs_nil))) (fun _ _ _ _ _ => pts_nil) (fun _ _ _ _ _ => (pv 12))) (by rfl))))) (pss_one (ps_ret pe_bl)) pss_nil)
 (pss_cons (ps_set (i := 8) sc_start_right.nd rfl (.inl rfl) (pe_own h_next (hr.mono (by decide)) pass0 (pa_cons (pv 0) (pa_cons (pe_op op_add (pv 4) (pv 5)) pa_nil))))
 (pss_cons (ps_set (i := 9) sc_start_right.nd rfl (.inl rfl) (pe_own h_jumped (hr.mono (by decide)) passL (pa_cons (pv 1) (pa_cons (pv 2) (pa_cons (pv 8) pa_nil)))))
 (pss_cons (ps_if (PW.pt (pw_or (pt_cmpR op_ne (pe_own h_steps_to (hr.mono (by decide)) passL (pa_cons (pv 1) (pa_cons (pv 2) (pa_cons (pv 9) pa_nil)))) (pv 8) (nomark _)) (pw_or1 (pt_cmpR (op_neD hr.units) (pe_own h_round_from (hr.mono (by decide)) passL (pa_cons (pv 1) (pa_cons (pv 9) pa_nil))) (pe_tup (pa_cons (pe_callB (id := "max") (call_max2 rfl) (by rfl) z_max (by decide +kernel) (pa_cons pe_int (pa_cons (pe_op op_sub (pv 4) (pv 8)) pa_nil))) (pa_cons (pv 5) pa_nil))) (nomark _))))) (pss_one (ps_ret pe_bl)) pss_nil)
 (pss_cons (ps_set (i := 10) sc_start_right.nd rfl (.inl rfl) (pe_own h_next (hr.mono (by decide)) pass0 (pa_cons (pv 0) (pa_cons (pe_op op_add (pv 4) (pv 5)) pa_nil))))
 (pss_cons (ps_set (i := 11) sc_start_right.nd rfl (.inl rfl) (pe_op op_add (pv 8) (pv 10)))
 (C8.pss_cut (ps_if (pt_cmpR op_gt (pv 11) (pv 4) (nomark _)) (pss_one (ps_set (i := 11) sc_start_right.nd rfl (.inl rfl) (pe_op op_add (pv 4) (pe_op op_mod (pe_op op_sub (pv 11) (pv 4)) (pv 5))))) pss_nil)
 (pss_one (ps_ret (pe_cmpR op_eq (pe_own h_steps_to (hr.mono (by decide)) passL (pa_cons (pv 1) (pa_cons (pv 2) (pa_cons (pe_own h_jumped (hr.mono (by decide)) passL (pa_cons (pv 1) (pa_cons (pv 9) (pa_cons (pv 10) pa_nil)))) pa_nil)))) (pv 11) (nomark _))))))))))))))), ?_⟩
  have m0 : 0 < m := by have := R.b1; omega
  obtain ⟨j, c, rho, jl, ew, eT, eL⟩ := rnd_rho (t := t) (p := p) m0 s00 s01
  have c0 := rho.pos
  have ir := fun k => itr_rng (t := t) (p := p) m0 ⟨s00, s01⟩ k
  have ia := fun (k n : Nat) => itr_ahd (t := t) (p := p) (ir k).1 (ir k).2 n
  have tn : ∀ k : Nat, ((k : Int)).toNat = k := fun k => Int.toNat_natCast k
  refine ⟨_, rfl, _, rfl, _, _, rfl, r, t, p, m, s0, rfl, rfl, SqT.of hr0, R, by omega, fun _ _ H1 q1 s1 n1 h1 => ?_, fun z => absurd ⟨s00, s01⟩ z⟩
  rw [eT, eL] at h1
  refine ⟨q1, _, rfl, SqT.of h1, rfl, _, _, rfl, _, _, rfl, rfl, ?_⟩
  -- at
  refine ⟨_, rfl, _, rfl, _, rfl, _, _, _, rfl, r, t, p, m, s0, j, rfl, rfl, rfl, SqT.of (s1 _ _ hr0), R, fun z => absurd ⟨s00, s01⟩ z, fun _ _ H2 s2 => ?_, fun _ n => by omega, fun _ n => by omega⟩
  have S2 := s1.trans s2
  rw [tn, ← itr_ahd s00 s01]
  have A1 : ahd t p m c (itr (stp t p m) j s0) = itr (stp t p m) j s0 := by
    rw [← ia j c, ← itr_add, Nat.add_comm]
    exact rho.ret
  -- jumped(rule, at, length) != at
  refine ⟨_, rfl, _, rfl, _, rfl, _, _, _, rfl, r, t, p, m, _, c, rfl, rfl, rfl, SqT.of (S2 _ _ hr0), R, fun z => absurd (ir j) z, fun _ _ H3 s3 => ?_, fun _ n => by omega, fun _ n => by omega⟩
  have S3 := S2.trans s3
  rw [tn, A1]
  refine ⟨_, rfl, rfl, _, rfl, ifNI (fun ne => absurd rfl ne) (fun _ => ?_)⟩
  -- steps_to(rule, next_of(rule, at), at) != length - 1
  refine ⟨_, rfl, _, rfl, _, rfl, _, _, rfl, r, t, p, m, _, rfl, rfl, SqT.of (S3 _ _ hr0), R, fun _ _ => ?_, fun z => absurd (ir j) z⟩
  have r1 := rho.shift (j + 1)
  rw [show j - (j + 1) = 0 by omega] at r1
  have A2 : stV t p m (itr (stp t p m) (j + 1) s0) (itr (stp t p m) j s0) = .int ((c - 1 : Nat) : Int) := by
    have := stV_in m0 (ir (j + 1)).1 (ir (j + 1)).2 r1 (k := c - 1) (by omega)
    rw [← itr_add, show c - 1 + (j + 1) = j + c by omega, rho.ret] at this
    exact this
  refine ⟨_, rfl, _, _, _, rfl, r, t, p, m, itr (stp t p m) (j + 1) s0, itr (stp t p m) j s0, rfl, rfl, rfl, SqT.of (S3 _ _ hr0), R, by omega, fun _ _ H4 s4 => ?_, fun z => absurd (ir (j + 1)) z, fun _ z => absurd (ir j) z⟩
  have S4 := S3.trans s4
  rw [A2]
  refine ⟨_, rfl, _, _, rfl, rfl, rfl, _, rfl, ifNI (fun ne => absurd (by show ((c - 1 : Nat) : Int) = (c : Int) - 1; omega) ne) (fun _ => ?_)⟩
  -- if tail > 0
  refine ⟨fun σ' H' => ∃ y7 : Option V, σ' = [some (.ref d), some (.ref r), some (.int s0), some (.ref q0), some (.int j), some (.int c), some (.int (itr (stp t p m) j s0)), y7, none, none, none, none, none, none] ∧ Same H H', ?_, ?_⟩
  · refine ⟨_, rfl, _, _, rfl, rfl, _, rfl, ifD (fun j0 => ?_) (fun j0 => ?_)⟩
    · refine ⟨_, rfl, _, rfl, _, rfl, _, _, rfl, rfl, _, _, _, rfl, r, t, p, m, s0, (j : Int) - 1, rfl, rfl, rfl, SqT.of (S4 _ _ hr0), R, fun z => absurd ⟨s00, s01⟩ z, fun _ _ H5 s5 => ?_, fun _ n => by omega, fun _ n => by omega⟩
      have S5 := S4.trans s5
      rw [show ((j : Int) - 1).toNat = j - 1 by omega, ← itr_ahd s00 s01]
      have en : stp t p m (itr (stp t p m) (j - 1) s0) = itr (stp t p m) j s0 := by
        show itr (stp t p m) (j - 1 + 1) s0 = _
        rw [show j - 1 + 1 = j by omega]
      refine ⟨_, rfl, _, rfl, _, rfl, _, _, rfl, r, t, p, m, _, rfl, rfl, SqT.of (S5 _ _ hr0), R, fun _ _ => ?_, fun z => absurd (ir (j - 1)) z⟩
      rw [en]
      have r0 := rho.shift j
      rw [Nat.sub_self] at r0
      have A3 : stV t p m (itr (stp t p m) j s0) (itr (stp t p m) (j - 1) s0) = .non := by
        refine stV_out m0 (ir j).1 (ir j).2 r0 fun k hk e => ?_
        rw [← itr_add] at e
        have := rho.one _ _ (by omega) (by omega) e
        omega
      refine ⟨_, rfl, _, _, _, rfl, r, t, p, m, itr (stp t p m) j s0, itr (stp t p m) (j - 1) s0, rfl, rfl, rfl, SqT.of (S5 _ _ hr0), R, by omega, fun _ _ H6 s6 => ?_, fun z => absurd (ir j) z, fun _ z => absurd (ir (j - 1)) z⟩
      have S6 := S5.trans s6
      rw [A3]
      refine ⟨rfl, _, rfl, ifF rfl ?_⟩
      have r1' := rho.shift (j - 1)
      rw [show j - (j - 1) = 1 by omega] at r1'
      obtain ⟨e1, e2, _⟩ := rho_rnd m0 (ir (j - 1)).1 (ir (j - 1)).2 r1'
      refine ⟨_, rfl, _, rfl, _, _, rfl, r, t, p, m, _, rfl, rfl, SqT.of (S6 _ _ hr0), R, by omega, fun _ _ H7 q7 s7 n7 h7 => ?_, fun z => absurd (ir (j - 1)) z⟩
      rw [e1, e2] at h7
      have S7 := S6.trans s7
      refine ⟨_, rfl, by show 2 ≤ sizeLine; decide, fun u nu => ?_⟩
      have s8 := same_new (o := .tup [.int 1, .int c]) nu
      refine ⟨.tuple [.int 1, .int c], .tuple [.int 1, .int c], .tup (SqT.of (s8 _ _ h7)) (.cons (.int _) (.cons (.int _) .nil)), .tup (SqT.of upd_same) (.cons (.int _) (.cons (.int _) .nil)), rfl, rfl, _, rfl, ifF (by rw [eqv_self rfl]; rfl) ?_⟩
      exact ⟨_, rfl, S7.trans s8⟩
    · exact ⟨none, rfl, S4⟩
  rintro σ' H5 ⟨y7, rfl, S5⟩
  -- next_of(rule_of_steps(rule, length), at) != at
  refine ⟨_, rfl, _, rfl, _, _, rfl, r, t, p, m, c, rfl, rfl, SqT.of (S5 _ _ hr0), R, by omega, fun H6 q6 s6 h6 => ?_⟩
  have S6 := S5.trans s6
  rw [tn] at h6
  refine ⟨_, rfl, _, _, rfl, q6, _, _, m, _, rfl, rfl, SqT.of h6, R.rs c, fun _ _ => ?_, fun z => absurd (ir j) z⟩
  rw [stp_rs, A1]
  refine ⟨_, rfl, rfl, _, rfl, ifNI (fun ne => absurd rfl ne) (fun _ => ?_)⟩
  -- length not in ..
  have T6 := T0.same S6
  refine ⟨_, rfl, _, rfl, q0, rfl, ⟨_, SqT.of T6.1⟩, fun L nL => ?_⟩
  have sL := same_new (o := .lst []) nL
  refine lc_tup (K := K) (a := q0) (xs := ps.map fun z => V.ref z.1) (fun i H' => H' = upd H6 L (.lst (((ps.take i).map fun z => z.2.1).map V.int))) rfl ?_ ?_ ?_
  · rintro i H' _ rfl
    exact SqT.of ((same_new nL) _ _ T6.1)
  · rintro i x H' hx rfl
    obtain ⟨z, hz, rfl⟩ : ∃ z, ps[i]? = some z ∧ x = V.ref z.1 := by
      rw [List.getElem?_map] at hx
      cases ez : ps[i]? with
      | none => rw [ez] at hx; cases hx
      | some z => rw [ez] at hx; exact ⟨z, rfl, (Option.some.inj hx).symm⟩
    have hz6 := (same_new (o := .lst (((ps.take i).map fun z => z.2.1).map V.int)) nL) _ _ (T6.2 z (List.mem_of_getElem? hz))
    refine ⟨z.1, _, rfl, SqT.of hz6, rfl, _, _, rfl, _, _, rfl, rfl, rfl, yesT ?_⟩
    refine ⟨_, rfl, _, upd_same, ?_, ?_⟩
    · have l1 := rds_short m0 R0
      rw [List.length_map] at l1
      rw [List.length_map, List.length_map, List.length_take]
      exact szl (by omega)
    · rw [upd_upd, List.take_add_one, hz, List.map_append, List.map_append]
      rfl
  · rintro H' rfl
    rw [List.length_map, List.take_length]
    have hc : (c : Int) ∈ ps.map fun z => z.2.1 := by
      have := rds_len R0 (ir j).1 (ir j).2 (rho.per (Nat.le_refl j))
      rw [List.map_map] at this
      exact this
    refine ⟨L, _, rfl, .inl (SqL.of upd_same), rfl, flat_ints _, _, rfl, ifF (by rw [inV_ints, decide_eq_true hc]; rfl) ?_⟩
    have S7 : Same H (upd H6 L (.lst ((ps.map fun z => z.2.1).map V.int))) := S6.trans (same_new nL)
    have D7 := D0.same S7
    have hr7 := S7 _ _ hr0
    generalize upd H6 L (.lst ((ps.map fun z => z.2.1).map V.int)) = H7 at S7 D7 hr7 ⊢
    -- far, other
    refine ⟨_, rfl, _, rfl, _, rfl, _, _, rfl, rfl, _, _, rfl, d, dn, (j : Int) + c, rfl, rfl, by omega, by omega, D7, by omega, fun H8 far B8 D8 f0 f1 => ?_⟩
    obtain ⟨F, rfl⟩ := Int.eq_ofNat_of_zero_le f0
    have hr8 := B8 _ _ (D7.ne_tup hr7) hr7
    refine ⟨_, rfl, _, rfl, _, rfl, _, _, _, rfl, r, t, p, m, s0, F, rfl, rfl, rfl, SqT.of hr8, R, fun z => absurd ⟨s00, s01⟩ z, fun _ _ H9 s9 => ?_, fun _ n => by omega, fun _ n => by omega⟩
    rw [tn, ← itr_ahd s00 s01]
    have hr9 := s9 _ _ hr8
    refine ⟨_, rfl, _, rfl, _, rfl, _, _, _, rfl, r, t, p, m, s0, itr (stp t p m) F s0, rfl, rfl, rfl, SqT.of hr9, R, by omega, fun _ _ H10 s10 => ?_, fun z => absurd ⟨s00, s01⟩ z, fun _ z => absurd (ir F) z⟩
    rw [stV_in m0 s00 s01 rho (k := F) (by omega)]
    have hr10 := s10 _ _ hr9
    refine ⟨_, rfl, rfl, _, rfl, ifNI (fun ne => absurd rfl ne) (fun _ => ?_)⟩
    obtain ⟨e1, e2, _⟩ := rho_rnd m0 (ir F).1 (ir F).2 (rho.shift F)
    refine ⟨_, rfl, _, rfl, _, _, rfl, r, t, p, m, _, rfl, rfl, SqT.of hr10, R, by omega, fun _ _ H11 q11 s11 n11 h11 => ?_, fun z => absurd (ir F) z⟩
    rw [e1, e2] at h11
    refine ⟨_, rfl, _, rfl, _, _, rfl, rfl, _, _, rfl, _, rfl, by show 2 ≤ sizeLine; decide, fun u nu => ?_⟩
    have s12 := same_new (o := .tup [.int (if (j : Int) - F > 0 then (j : Int) - F else 0), .int c]) nu
    have emx : (if (j : Int) - F > 0 then (j : Int) - F else 0) = ((j - F : Nat) : Int) := by
      split <;> omega
    refine ⟨.tuple [.int ((j - F : Nat) : Int), .int c], .tuple [.int (if (j : Int) - F > 0 then (j : Int) - F else 0), .int c], .tup (SqT.of (s12 _ _ h11)) (.cons (.int _) (.cons (.int _) .nil)), .tup (SqT.of upd_same) (.cons (.int _) (.cons (.int _) .nil)), rfl, rfl, _, rfl, ifF (by rw [emx, eqv_self rfl]; rfl) ?_⟩
    have S12 := s9.trans (s10.trans (s11.trans s12))
    -- more
    refine ⟨_, rfl, _, rfl, _, rfl, _, _, rfl, rfl, _, _, rfl, d, dn + 1, (j : Int) + c, rfl, rfl, by omega, by omega, D8.same S12, by omega, fun H13 more B13 D13 g0 g1 => ?_⟩
    obtain ⟨M, rfl⟩ := Int.eq_ofNat_of_zero_le g0
    have hr13 := B13 _ _ ((D8.same S12).ne_tup (S12 _ _ hr8)) (S12 _ _ hr8)
    refine ⟨_, rfl, _, rfl, _, _, rfl, rfl, ?_⟩
    have fin : ∃ k : Nat, k < j + c ∧ itr (stp t p m) (F + M) s0 = itr (stp t p m) k s0 ∧ (if (F : Int) + M > j then (j : Int) + ((F : Int) + M - j) % c else (F : Int) + M) = k := by
      by_cases l : (F : Int) + M > j
      · refine ⟨j + (F + M - j) % c, ?_, rho.mod (by omega), ?_⟩
        · have := Nat.mod_lt (F + M - j) c0
          omega
        · rw [if_pos l, show (F : Int) + M - j = ((F + M - j : Nat) : Int) by omega, ← Int.natCast_emod]
          omega
      · refine ⟨F + M, by omega, rfl, ?_⟩
        rw [if_neg l]
        omega
    obtain ⟨k, k1, k2, k3⟩ := fin
    refine ⟨fun σ' H' => σ' = [some (.ref d), some (.ref r), some (.int s0), some (.ref q0), some (.int j), some (.int c), some (.int (itr (stp t p m) j s0)), y7, some (.int F), some (.int (itr (stp t p m) F s0)), some (.int M), some (.int k), none, none] ∧ H' = H13, ?_, ?_⟩
    · refine ⟨_, rfl, _, rfl, _, _, rfl, rfl, _, rfl, ifD (fun l => ?_) (fun l => ?_)⟩
      · refine ⟨_, rfl, _, rfl, _, rfl, _, _, rfl, rfl, _, rfl, _, _, rfl, rfl, (by show (0 : Int) < c; omega), _, _, rfl, rfl, ?_⟩
        rw [if_pos l] at k3
        rw [← k3]
        exact ⟨rfl, rfl⟩
      · rw [if_neg l] at k3
        rw [← k3]
        exact ⟨rfl, rfl⟩
    rintro σ' _ ⟨rfl, rfl⟩
    refine ⟨_, rfl, _, rfl, _, rfl, _, rfl, _, rfl, _, _, _, rfl, r, t, p, m, _, M, rfl, rfl, rfl, SqT.of hr13, R, fun z => absurd (ir F) z, fun _ _ H14 s14 => ?_, fun _ n => by omega, fun _ n => by omega⟩
    rw [tn, ← ia F M, ← itr_add, Nat.add_comm M F, k2]
    refine ⟨_, _, _, rfl, r, t, p, m, s0, itr (stp t p m) k s0, rfl, rfl, rfl, SqT.of (s14 _ _ hr13), R, by omega, fun _ _ H15 s15 => ?_, fun z => absurd ⟨s00, s01⟩ z, fun _ z => absurd (ir k) z⟩
    rw [stV_in m0 s00 s01 rho k1]
    refine ⟨_, rfl, rfl, ?_⟩
    have S15 := s14.trans s15
    have e : decide (V.int (k : Int) = V.int (k : Int)) = true := decide_eq_true rfl
    rw [e]
    exact q _ ((((S7.but.trans B8).trans S12.but).trans B13).trans S15.but) (D13.same S15)
theorem ok_law {CN fL : Addr} {fdL : FuncData} (F : Fun K "law" "law" s_law fL fdL) (h_deck : Has P w K mg base CX0 1 "_law_deck" ["script"] (sp1 (pDeck K))) (h_rule : Has P w K mg base CX0 5 "_law_rule" ["deck", "most"] (sp2 pRule)) (h_start : Has P w K mg base CX0 4 "_law_start" ["deck", "bound"] (sp2 (pNext 3)))
    (h_all_rounds : Has P w K mg base CX0 6 "all_rounds" ["rule"] (sp1 (pAllR K))) (h_rule_of_steps : Has P w K mg base CX0 2 "rule_of_steps" ["rule", "steps"] (sp2 (pRos K))) (h_next_of : Has P w K mg base (L2.CX P w) 4 "next_of" ["rule", "number"] (sp2 (pNextOf K CN)))
    (h_is_one_round : Has P w K mg base CX0 3 "is_one_round" ["rule"] (sp1 (pOneR K))) (h_start_right : Has P w K mg base CX0 7 "_law_start_right" ["deck", "rule", "start", "rounds"] (sp4 (pStart10 K)))
    (z_range : mg "range" = none) (z_len : mg "len" = none) (z_set : mg "set" = none) (z_sum : mg "sum" = none) :
    FnOk P w K mg base CX0 8 fL fdL ["script"] (sp1 fun a H Q _ => ∃ (sa : Addr) (xs : List Int), a = .ref sa ∧ SqL K H sa (xs.map V.int) ∧ ∀ H', Q (.bl true) H') := by
  refine F.ok sc_law (fun vs H Q E h => by obtain ⟨_, rfl, _⟩ := h; rfl) (fun cdv A outer s H vs Q E hr h => ?_)
  obtain ⟨v1, rfl, sa, xs, rfl, hS, q⟩ := h
  refine ⟨_, (pss_cons (ps_set (i := 1) sc_law.nd rfl (.inl rfl) (pe_own h_deck (hr.mono (by decide)) pass0 (pa_cons (pv 0) pa_nil)))
 (pss_cons (ps_for PassesOwn.never rfl (pi_range1 (by rfl) z_range (pa_cons pe_int pa_nil)) (pg_name (i := 2) sc_law.nd rfl (.inl rfl)) (pss_cons (ps_set (i := 3) sc_law.nd rfl (.inl rfl) (pe_own h_rule (hr.mono (by decide)) pass0 (pa_cons (pv 1) (pa_cons pe_int pa_nil))))
 (pss_cons (ps_set (i := 4) sc_law.nd rfl (.inl rfl) (pe_own h_all_rounds (hr.mono (by decide)) pass0 (pa_cons (pv 3) pa_nil)))
 (pss_cons (ps_set (i := 5) sc_law.nd rfl (.inr rfl) (pe_own h_rule_of_steps (hr.mono (by decide)) pass0 (pa_cons (pv 3) (pa_cons (pe_ix ix_tup (pv 3) pe_int (fun _ _ => rfl)) pa_nil))))
 (pss_cons (ps_set (i := 6) sc_law.nd rfl (.inl rfl) (pe_callB (id := "len") cr_lenSet (by rfl) z_len (by decide +kernel) (pa_cons (pe_callTy (cr_setI rfl) (by rfl) z_set (by decide +kernel) (pa_cons (pe_lc (own := [("one", 8)]) (by rfl) sc_law.nd (pi_range1 (by rfl) z_range (pa_cons (pe_ix ix_tup (pv 3) pe_int (fun _ _ => rfl)) pa_nil)) (blkOk_by (own := [("one", 8)]) (N := ["script", "deck", "turn", "rule", "rounds", "leap", "left", "k", "one", "length", "many"]) (sc := defScope s_law) (by decide +kernel)) (fun _ _ _ _ _ => pg_name (i := 8) sc_law.nd rfl (Or.inl rfl)) (fun _ _ _ _ _ => pts_nil) (fun _ _ _ _ _ => (pe_own h_next_of (hr.mono (by decide)) passL (pa_cons (pv 5) (pa_cons (pv 8) pa_nil))))) pa_nil)) pa_nil)))
 (pss_cons (ps_if (pt_cmpR op_ne (pe_callB (id := "sum") (cr_sum rfl) (by rfl) z_sum (by decide +kernel) (pa_cons (pe_lc (own := [("length", 9), ("many", 10)]) (by rfl) sc_law.nd (pi_tup (pv 4)) (blkOk_by (own := [("length", 9), ("many", 10)]) (N := ["script", "deck", "turn", "rule", "rounds", "leap", "left", "k", "one", "length", "many"]) (sc := defScope s_law) (by decide +kernel)) (fun _ _ _ _ _ => tup_in (K := K) (n := 2) rfl rfl (pgs_cons (pg_name (i := 9) sc_law.nd rfl (Or.inl rfl)) (pgs_cons (pg_name (i := 10) sc_law.nd rfl (Or.inl rfl)) pgs_nil))) (fun _ _ _ _ _ => pts_nil) (fun _ _ _ _ _ => (pe_op op_mulB (pv 9) (pv 10)))) pa_nil)) (pv 6) (nomark _)) (pss_one (ps_ret pe_bl)) pss_nil)
 (pss_cons (ps_if (pt_cmpR op_ne (pe_own h_is_one_round (hr.mono (by decide)) pass0 (pa_cons (pv 3) pa_nil)) (pe_cmpR (op_eqD hr.units) (pv 4) (pe_tup (pa_cons (pe_tup (pa_cons (pe_ix ix_tup (pv 3) pe_int (fun _ _ => rfl)) (pa_cons pe_int pa_nil))) pa_nil)) (nomark _)) (nomark _)) (pss_one (ps_ret pe_bl)) pss_nil)
 (pss_one (ps_for PassesOwn.never rfl (pi_range1 (by rfl) z_range (pa_cons pe_int pa_nil)) (pg_name (i := 7) sc_law.nd rfl (.inl rfl)) (pss_one (ps_if (pt_not (pt_val (pe_own h_start_right (hr.mono (by decide)) pass0 (pa_cons (pv 1) (pa_cons (pv 3) (pa_cons (pe_own h_start (hr.mono (by decide)) pass0 (pa_cons (pv 1) (pa_cons (pe_ix ix_tup (pv 3) pe_int (fun _ _ => rfl)) pa_nil))) (pa_cons (pv 4) pa_nil))))))) (pss_one (ps_ret pe_bl)) pss_nil)))))))))))
 (pss_one (ps_ret (pe_cmpR (op_eqD hr.units) (pe_own h_all_rounds (hr.mono (by decide)) pass0 (pa_cons (pe_tup (pa_cons pe_int (pa_cons pe_int (pa_cons pe_int pa_nil)))) pa_nil)) (pe_tup (pa_cons (pe_tup (pa_cons pe_int (pa_cons pe_int pa_nil))) pa_nil)) (nomark _)))))), ?_⟩
  refine ⟨_, rfl, _, rfl, sa, xs, rfl, hS, fun H1 d s1 nd D1 => ?_⟩
  refine ⟨5, rfl, by decide, by decide, for_range (lo := 0) (n := 5) (fun i σ H' => ∃ (y2 y3 y4 y5 y6 y7 : Option V), σ = [some (.ref sa), some (.ref d), y2, y3, y4, y5, y6, y7, none, none, none] ∧ Deck H' d (200 * i)) ⟨none, none, none, none, none, none, rfl, D1⟩ ?_ ?_⟩
  · rintro i σ H2 hi ⟨y2, y3, y4, y5, y6, y7, rfl, D2⟩
    refine ⟨_, rfl, _, _, rfl, d, 200 * i, 2000, rfl, rfl, by decide, by decide, D2, by omega, fun H3 r t p m B3 D3 nr hr3 R mM => ?_⟩
    have m0 : 0 < m := by have := R.b1; omega
    refine ⟨_, rfl, _, rfl, r, t, p, m, rfl, SqT.of hr3, R, mM, fun H4 q4 ps s4 n4 T4 R4 => ?_⟩
    have hr4 := s4 _ _ hr3
    refine ⟨_, rfl, _, rfl, r, _, 2, .int m, rfl, rfl, SqT.of hr4, rfl, _, _, rfl, r, t, p, m, m, rfl, rfl, SqT.of hr4, R, by omega, fun H5 q5 s5 h5 => ?_⟩
    have hr5 := s5 _ _ hr4
    refine ⟨_, rfl, r, _, 2, .int m, rfl, rfl, SqT.of hr5, rfl, m, rfl, by omega, by omega, fun L nL => ?_⟩
    refine lc_range (lo := 0) (n := m.toNat) (fun i H' => H' = upd H5 L (.lst (((List.range i).map fun (x : Nat) => itr (stp t p m) m.toNat (x : Int)).map V.int))) rfl ?_ ?_
    · rintro x H' hx rfl
      have sL := same_new (o := .lst (((List.range x).map fun (x : Nat) => itr (stp t p m) m.toNat (x : Int)).map V.int)) nL
      refine ⟨rfl, yesT ?_⟩
      refine ⟨_, rfl, _, rfl, _, _, rfl, q5, _, _, m, 0 + (x : Int), rfl, rfl, SqT.of (sL _ _ h5), R.rs m.toNat, fun _ _ => ?_, fun z => absurd ⟨by omega, by omega⟩ z⟩
      rw [stp_rs, Int.zero_add, ← itr_ahd (t := t) (p := p) (m := m) (x := (x : Int)) (by omega) (by omega)]
      refine ⟨_, upd_same, ?_, ?_⟩
      · rw [List.length_map, List.length_map, List.length_range]
        exact szl (by omega)
      · rw [upd_upd, List.range_succ, List.map_append, List.map_append]
        rfl
    · rintro H' rfl
      have sL := same_new (o := .lst (((List.range m.toNat).map fun (x : Nat) => itr (stp t p m) m.toNat (x : Int)).map V.int)) nL
      refine ⟨L, _, rfl, SqL.of upd_same, by rw [List.length_map, List.length_range]; omega, fun pq c npq => ?_⟩
      have sp := same_new (o := SetO w pq (fun j => decide (j ∈ (List.range m.toNat).map fun (x : Nat) => itr (stp t p m) m.toNat (x : Int))) c) npq
      refine ⟨pq, _, c, rfl, upd_same, fun ks knd kmem => ?_⟩
      have kl : ks.length = Pall (stp t p m) m := pall_len m0 knd fun k => by
        rw [kmem k, decide_eq_true_eq, List.mem_map]
        constructor
        · rintro ⟨x, hx, rfl⟩
          rw [List.mem_range] at hx
          exact ⟨x, by omega, by omega, rfl⟩
        · rintro ⟨y, y0, y1, rfl⟩
          exact ⟨y.toNat, by rw [List.mem_range]; omega, by rw [show ((y.toNat : Nat) : Int) = y by omega]⟩
      have S6 := s5.trans (sL.trans sp)
      have T6 := T4.same S6
      have hr6 := S6 _ _ hr4
      have D6 := (D3.same s4).same S6
      -- sum
      refine ⟨_, rfl, q4, rfl, ⟨_, SqT.of T6.1⟩, fun L2 nL2 => ?_⟩
      refine lc_tup (K := K) (a := q4) (xs := ps.map fun z => V.ref z.1) (fun i H' => H' = upd _ L2 (.lst (((ps.take i).map fun z => z.2.1 * z.2.2).map V.int))) rfl ?_ ?_ ?_
      · rintro i H' _ rfl
        exact SqT.of ((same_new nL2) _ _ T6.1)
      · rintro i x H' hx rfl
        obtain ⟨z, hz, rfl⟩ : ∃ z, ps[i]? = some z ∧ x = V.ref z.1 := by
          rw [List.getElem?_map] at hx
          cases ez : ps[i]? with
          | none => rw [ez] at hx; cases hx
          | some z => rw [ez] at hx; exact ⟨z, rfl, (Option.some.inj hx).symm⟩
        have zm := List.mem_of_getElem? hz
        have zb := rds_bd m0 R4 (List.mem_map.mpr ⟨z, zm, rfl⟩)
        have hz6 := (same_new (o := .lst (((ps.take i).map fun z => z.2.1 * z.2.2).map V.int)) nL2) _ _ (T6.2 z zm)
        refine ⟨z.1, _, rfl, SqT.of hz6, rfl, _, _, rfl, _, _, rfl, rfl, rfl, yesT ?_⟩
        refine ⟨_, rfl, _, rfl, _, _, rfl, rfl, ⟨by unfold Big; omega, by unfold Big; omega⟩, _, upd_same, ?_, ?_⟩
        · have l1 := rds_short m0 R4
          rw [List.length_map] at l1
          rw [List.length_map, List.length_map, List.length_take]
          exact szl (by omega)
        · rw [upd_upd, List.take_add_one, hz, List.map_append, List.map_append]
          rfl
      · rintro H' rfl
        rw [List.length_map, List.take_length]
        refine ⟨L2, _, rfl, SqL.of upd_same, ?_⟩
        have es : (ps.map fun z => z.2.1 * z.2.2).sum = (ks.length : Int) := by
          have := R4.sum m0
          rw [List.map_map] at this
          rw [kl]
          exact this
        rw [es]
        refine ⟨_, rfl, rfl, _, rfl, ifNI (fun ne => absurd rfl ne) (fun _ => ?_)⟩
        have s7 := same_new (o := .lst ((ps.map fun z => z.2.1 * z.2.2).map V.int)) nL2
        -- is_one_round
        refine ⟨_, rfl, _, rfl, r, t, p, m, rfl, SqT.of (s7 _ _ hr6), R, fun b1 hb1 => ?_⟩
        have eb := one_bool m0 R4 hb1
        refine ⟨_, rfl, _, rfl, r, _, 2, .int m, rfl, rfl, SqT.of (s7 _ _ hr6), rfl, by show 2 ≤ sizeLine; decide, fun u nu => ?_⟩
        have s8 := same_new (o := .tup [.int m, .int 1]) nu
        refine ⟨by show 1 ≤ sizeLine; decide, fun u2 nu2 => ?_⟩
        have s9 := same_new (o := .tup [.ref u]) nu2
        have S9 := s7.trans (s8.trans s9)
        refine ⟨dPairs (ps.map (·.2)), dPairs [(m, 1)], (T6.same S9).dp, .tup (SqT.of upd_same) (.cons (.tup (SqT.of (s9 _ _ upd_same)) (.cons (.int _) (.cons (.int _) .nil))) .nil), shp_pairs _, shp_pairs _, ?_⟩
        rw [← eb]
        refine ⟨rfl, _, rfl, ifF (by simp) ?_⟩
        have T9 := T6.same S9
        have hr9 := S9 _ _ hr6
        have D9 := D6.same S9
        refine ⟨3, rfl, by decide, by decide, for_range (lo := 0) (n := 3) (fun j σ H' => ∃ (y7 : Option V), σ = [some (.ref sa), some (.ref d), some (.int (0 + i)), some (.ref r), some (.ref q4), some (.ref q5), some (.int ks.length), y7, none, none, none] ∧ H' r = some (.tup [.int t, .int p, .int m]) ∧ TupP H' q4 ps ∧ Deck H' d (200 * i + 60 + 5 * j)) ⟨y7, rfl, hr9, T9, D9.mono (by omega)⟩ ?_ ?_⟩
        · rintro j σ H10 hj ⟨z7, rfl, hr10, T10, D10⟩
          refine ⟨_, rfl, _, rfl, _, rfl, _, rfl, r, _, 2, .int m, rfl, rfl, SqT.of hr10, rfl, _, _, rfl, d, 200 * i + 60 + 5 * j, m, rfl, rfl, by omega, by omega, D10, by omega, fun H11 st B11 D11 u0 u1 => ?_⟩
          have hr11 := B11 _ _ (D10.ne_tup hr10) hr10
          have T11 := T10.but D10 B11
          refine ⟨_, rfl, _, _, _, _, rfl, d, 200 * i + 60 + 5 * j + 3, r, t, p, m, st, q4, ps, rfl, rfl, rfl, rfl, D11, by omega, hr11, R, mM, u0, u1, T11, R4, fun H12 B12 D12 => ?_⟩
          exact ⟨_, rfl, ifF rfl ⟨some (.int (0 + j)), rfl, B12 _ _ (D11.ne_tup hr11) hr11, T11.but D11 B12, D12.mono (by omega)⟩⟩
        · rintro σ H10 ⟨z7, rfl, hr10, T10, D10⟩
          exact ⟨_, _, _, _, _, _, rfl, D10.mono (by omega)⟩
  · rintro σ H2 ⟨y2, y3, y4, y5, y6, y7, rfl, D2⟩
    refine ⟨by show 3 ≤ sizeLine; decide, fun a na => ?_⟩
    refine ⟨_, rfl, a, 1, 0, 6, rfl, SqT.of upd_same, ⟨by decide, by decide, by decide, by decide, by decide, by decide⟩, by decide, fun H3 q3 ps3 s3 n3 T3 R3 => ?_⟩
    refine ⟨by show 2 ≤ sizeLine; decide, fun a4 na4 => ?_⟩
    have s4 := same_new (o := .tup [.int 1, .int 6]) na4
    refine ⟨by show 1 ≤ sizeLine; decide, fun a5 na5 => ?_⟩
    have s5 := same_new (o := .tup [.ref a4]) na5
    have T5 := T3.same (s4.trans s5)
    refine ⟨dPairs (ps3.map (·.2)), dPairs [(1, 6)], T5.dp, .tup (SqT.of upd_same) (.cons (.tup (SqT.of (s5 _ _ upd_same)) (.cons (.int _) (.cons (.int _) .nil))) .nil), shp_pairs _, shp_pairs _, ?_⟩
    rw [R3.uniq rds_106, eqv_self (shp_pairs _)]
    exact q _
end
end Tw


namespace Tw
open PySem PySem.Spec PyProof.Rows L2

def spLaw (K : PySem.W.Frag) : Sp := sp1 fun a H Q _ => ∃ (sa : Addr) (xs : List Int), a = .ref sa ∧ SqL K H sa (xs.map V.int) ∧ ∀ H', Q (.bl true) H'
theorem all_mk {l : PySem.W.OpenLaw} {w : World} {K : PySem.W.Frag} {h : Heap} {mg : Str → Option Value} {fa CR CB CN f0 f1 f2 f3 f4 f5 f6 f7 f8 f9 f10 f11 f12 f13 f14 f15 f16 f17 f18 f19 f20 f21 f22 f23 f24 fI Nn : Addr} (X : K.In h) (G : h.Ns mainGlobals mg) (hfa : mg "law" = some (.ref fa))
    {oc0 kV0 dc0 pm0 cd0 ct0 : Value} {od0 an0 : Option Addr} {sl0 : Array (Option Value)}
    {oc1 kV1 dc1 pm1 cd1 ct1 : Value} {od1 an1 : Option Addr} {sl1 : Array (Option Value)}
    {oc2 kV2 dc2 pm2 cd2 ct2 : Value} {od2 an2 : Option Addr} {sl2 : Array (Option Value)}
    {oc3 kV3 dc3 pm3 cd3 ct3 : Value} {od3 an3 : Option Addr} {sl3 : Array (Option Value)}
    {oc4 kV4 dc4 pm4 cd4 ct4 : Value} {od4 an4 : Option Addr} {sl4 : Array (Option Value)}
    {oc5 kV5 dc5 pm5 cd5 ct5 : Value} {od5 an5 : Option Addr} {sl5 : Array (Option Value)}
    {oc6 kV6 dc6 pm6 cd6 ct6 : Value} {od6 an6 : Option Addr} {sl6 : Array (Option Value)}
    {oc7 kV7 dc7 pm7 cd7 ct7 : Value} {od7 an7 : Option Addr} {sl7 : Array (Option Value)}
    {oc8 kV8 dc8 pm8 cd8 ct8 : Value} {od8 an8 : Option Addr} {sl8 : Array (Option Value)}
    {oc9 kV9 dc9 pm9 cd9 ct9 : Value} {od9 an9 : Option Addr} {sl9 : Array (Option Value)}
    {oc10 kV10 dc10 pm10 cd10 ct10 : Value} {od10 an10 : Option Addr} {sl10 : Array (Option Value)}
    {oc11 kV11 dc11 pm11 cd11 ct11 : Value} {od11 an11 : Option Addr} {sl11 : Array (Option Value)}
    {oc12 kV12 dc12 pm12 cd12 ct12 : Value} {od12 an12 : Option Addr} {sl12 : Array (Option Value)}
    {oc13 kV13 dc13 pm13 cd13 ct13 : Value} {od13 an13 : Option Addr} {sl13 : Array (Option Value)}
    {oc14 kV14 dc14 pm14 cd14 ct14 : Value} {od14 an14 : Option Addr} {sl14 : Array (Option Value)}
    {oc15 kV15 dc15 pm15 cd15 ct15 : Value} {od15 an15 : Option Addr} {sl15 : Array (Option Value)}
    {oc16 kV16 dc16 pm16 cd16 ct16 : Value} {od16 an16 : Option Addr} {sl16 : Array (Option Value)}
    {oc17 kV17 dc17 pm17 cd17 ct17 : Value} {od17 an17 : Option Addr} {sl17 : Array (Option Value)}
    {oc18 kV18 dc18 pm18 cd18 ct18 : Value} {od18 an18 : Option Addr} {sl18 : Array (Option Value)}
    {oc19 kV19 dc19 pm19 cd19 ct19 : Value} {od19 an19 : Option Addr} {sl19 : Array (Option Value)}
    {oc20 kV20 dc20 pm20 cd20 ct20 : Value} {od20 an20 : Option Addr} {sl20 : Array (Option Value)}
    {oc21 kV21 dc21 pm21 cd21 ct21 : Value} {od21 an21 : Option Addr} {sl21 : Array (Option Value)}
    {oc22 kV22 dc22 pm22 cd22 ct22 : Value} {od22 an22 : Option Addr} {sl22 : Array (Option Value)}
    {oc23 kV23 dc23 pm23 cd23 ct23 : Value} {od23 an23 : Option Addr} {sl23 : Array (Option Value)}
    {oc24 kV24 dc24 pm24 cd24 ct24 : Value} {od24 an24 : Option Addr} {sl24 : Array (Option Value)}
    {nm qn : Str} {bs : List Value} {sn : List Str} {sub : List Value} {ab : Bool} {col : Option Bool} {dd : Option Addr} {m0 m1 m2 m3 m5 : Option Value} {ocI kVI dcI pmI cdI ctI : Value} {odI anI : Option Addr} {slI : Array (Option Value)}
    (aCR : PySem.W.nsIn K mainGlobals "RowError" = some (some (.ref CR)))
    (aCB : PySem.W.nsIn K mainGlobals "NoBack" = some (some (.ref CB)))
    (aCN : PySem.W.nsIn K mainGlobals "NoNumber" = some (some (.ref CN)))
    (a0 : PySem.W.nsIn K mainGlobals "_law_mix" = some (some (.ref f0)))
    (l0 : K.lookup f0 = some ⟨oc0, od0, .func (PySem.W.fnOf "_law_mix" "_law_mix" (defArgs s_mix) (defBody s_mix) (defScope s_mix) .none kV0 dc0 pm0 an0 cd0 ct0), sl0⟩)
    (c0 : PySem.W.codeIn K cd0 "_law_mix" = true)
    (k0 : PySem.W.keepIn K (.ref f0) = true)
    (a1 : PySem.W.nsIn K mainGlobals "_law_deck" = some (some (.ref f1)))
    (l1 : K.lookup f1 = some ⟨oc1, od1, .func (PySem.W.fnOf "_law_deck" "_law_deck" (defArgs s_deck) (defBody s_deck) (defScope s_deck) .none kV1 dc1 pm1 an1 cd1 ct1), sl1⟩)
    (c1 : PySem.W.codeIn K cd1 "_law_deck" = true)
    (k1 : PySem.W.keepIn K (.ref f1) = true)
    (a2 : PySem.W.nsIn K mainGlobals "_law_next" = some (some (.ref f2)))
    (l2 : K.lookup f2 = some ⟨oc2, od2, .func (PySem.W.fnOf "_law_next" "_law_next" (defArgs s_next) (defBody s_next) (defScope s_next) .none kV2 dc2 pm2 an2 cd2 ct2), sl2⟩)
    (c2 : PySem.W.codeIn K cd2 "_law_next" = true)
    (k2 : PySem.W.keepIn K (.ref f2) = true)
    (a3 : PySem.W.nsIn K mainGlobals "_law_great" = some (some (.ref f3)))
    (l3 : K.lookup f3 = some ⟨oc3, od3, .func (PySem.W.fnOf "_law_great" "_law_great" (defArgs s_great) (defBody s_great) (defScope s_great) .none kV3 dc3 pm3 an3 cd3 ct3), sl3⟩)
    (c3 : PySem.W.codeIn K cd3 "_law_great" = true)
    (k3 : PySem.W.keepIn K (.ref f3) = true)
    (a4 : PySem.W.nsIn K mainGlobals "_law_bound" = some (some (.ref f4)))
    (l4 : K.lookup f4 = some ⟨oc4, od4, .func (PySem.W.fnOf "_law_bound" "_law_bound" (defArgs s_bound) (defBody s_bound) (defScope s_bound) .none kV4 dc4 pm4 an4 cd4 ct4), sl4⟩)
    (c4 : PySem.W.codeIn K cd4 "_law_bound" = true)
    (k4 : PySem.W.keepIn K (.ref f4) = true)
    (a5 : PySem.W.nsIn K mainGlobals "_law_rule" = some (some (.ref f5)))
    (l5 : K.lookup f5 = some ⟨oc5, od5, .func (PySem.W.fnOf "_law_rule" "_law_rule" (defArgs s_rule) (defBody s_rule) (defScope s_rule) .none kV5 dc5 pm5 an5 cd5 ct5), sl5⟩)
    (c5 : PySem.W.codeIn K cd5 "_law_rule" = true)
    (k5 : PySem.W.keepIn K (.ref f5) = true)
    (a6 : PySem.W.nsIn K mainGlobals "_law_start" = some (some (.ref f6)))
    (l6 : K.lookup f6 = some ⟨oc6, od6, .func (PySem.W.fnOf "_law_start" "_law_start" (defArgs s_start) (defBody s_start) (defScope s_start) .none kV6 dc6 pm6 an6 cd6 ct6), sl6⟩)
    (c6 : PySem.W.codeIn K cd6 "_law_start" = true)
    (k6 : PySem.W.keepIn K (.ref f6) = true)
    (a7 : PySem.W.nsIn K mainGlobals "is_whole" = some (some (.ref f7)))
    (l7 : K.lookup f7 = some ⟨oc7, od7, .func (PySem.W.fnOf "is_whole" "is_whole" (defArgs s_is_whole) (defBody s_is_whole) (defScope s_is_whole) .none kV7 dc7 pm7 an7 cd7 ct7), sl7⟩)
    (c7 : PySem.W.codeIn K cd7 "is_whole" = true)
    (k7 : PySem.W.keepIn K (.ref f7) = true)
    (a8 : PySem.W.nsIn K mainGlobals "is_number" = some (some (.ref f8)))
    (l8 : K.lookup f8 = some ⟨oc8, od8, .func (PySem.W.fnOf "is_number" "is_number" (defArgs s_is_number) (defBody s_is_number) (defScope s_is_number) .none kV8 dc8 pm8 an8 cd8 ct8), sl8⟩)
    (c8 : PySem.W.codeIn K cd8 "is_number" = true)
    (k8 : PySem.W.keepIn K (.ref f8) = true)
    (a9 : PySem.W.nsIn K mainGlobals "check_number" = some (some (.ref f9)))
    (l9 : K.lookup f9 = some ⟨oc9, od9, .func (PySem.W.fnOf "check_number" "check_number" (defArgs s_check_number) (defBody s_check_number) (defScope s_check_number) .none kV9 dc9 pm9 an9 cd9 ct9), sl9⟩)
    (c9 : PySem.W.codeIn K cd9 "check_number" = true)
    (k9 : PySem.W.keepIn K (.ref f9) = true)
    (a10 : PySem.W.nsIn K mainGlobals "next_of" = some (some (.ref f10)))
    (l10 : K.lookup f10 = some ⟨oc10, od10, .func (PySem.W.fnOf "next_of" "next_of" (defArgs s_next_of) (defBody s_next_of) (defScope s_next_of) .none kV10 dc10 pm10 an10 cd10 ct10), sl10⟩)
    (c10 : PySem.W.codeIn K cd10 "next_of" = true)
    (k10 : PySem.W.keepIn K (.ref f10) = true)
    (a11 : PySem.W.nsIn K mainGlobals "common_divisor" = some (some (.ref f11)))
    (l11 : K.lookup f11 = some ⟨oc11, od11, .func (PySem.W.fnOf "common_divisor" "common_divisor" (defArgs s_common_divisor) (defBody s_common_divisor) (defScope s_common_divisor) .none kV11 dc11 pm11 an11 cd11 ct11), sl11⟩)
    (c11 : PySem.W.codeIn K cd11 "common_divisor" = true)
    (k11 : PySem.W.keepIn K (.ref f11) = true)
    (a12 : PySem.W.nsIn K mainGlobals "inverse" = some (some (.ref f12)))
    (l12 : K.lookup f12 = some ⟨oc12, od12, .func (PySem.W.fnOf "inverse" "inverse" (defArgs s_inverse) (defBody s_inverse) (defScope s_inverse) .none kV12 dc12 pm12 an12 cd12 ct12), sl12⟩)
    (c12 : PySem.W.codeIn K cd12 "inverse" = true)
    (k12 : PySem.W.keepIn K (.ref f12) = true)
    (a13 : PySem.W.nsIn K mainGlobals "chained" = some (some (.ref f13)))
    (l13 : K.lookup f13 = some ⟨oc13, od13, .func (PySem.W.fnOf "chained" "chained" (defArgs s_chained) (defBody s_chained) (defScope s_chained) .none kV13 dc13 pm13 an13 cd13 ct13), sl13⟩)
    (c13 : PySem.W.codeIn K cd13 "chained" = true)
    (k13 : PySem.W.keepIn K (.ref f13) = true)
    (a14 : PySem.W.nsIn K mainGlobals "rule_of_steps" = some (some (.ref f14)))
    (l14 : K.lookup f14 = some ⟨oc14, od14, .func (PySem.W.fnOf "rule_of_steps" "rule_of_steps" (defArgs s_rule_of_steps) (defBody s_rule_of_steps) (defScope s_rule_of_steps) .none kV14 dc14 pm14 an14 cd14 ct14), sl14⟩)
    (c14 : PySem.W.codeIn K cd14 "rule_of_steps" = true)
    (k14 : PySem.W.keepIn K (.ref f14) = true)
    (a15 : PySem.W.nsIn K mainGlobals "rule_back" = some (some (.ref f15)))
    (l15 : K.lookup f15 = some ⟨oc15, od15, .func (PySem.W.fnOf "rule_back" "rule_back" (defArgs s_rule_back) (defBody s_rule_back) (defScope s_rule_back) .none kV15 dc15 pm15 an15 cd15 ct15), sl15⟩)
    (c15 : PySem.W.codeIn K cd15 "rule_back" = true)
    (k15 : PySem.W.keepIn K (.ref f15) = true)
    (a16 : PySem.W.nsIn K mainGlobals "jumped" = some (some (.ref f16)))
    (l16 : K.lookup f16 = some ⟨oc16, od16, .func (PySem.W.fnOf "jumped" "jumped" (defArgs s_jumped) (defBody s_jumped) (defScope s_jumped) .none kV16 dc16 pm16 an16 cd16 ct16), sl16⟩)
    (c16 : PySem.W.codeIn K cd16 "jumped" = true)
    (k16 : PySem.W.keepIn K (.ref f16) = true)
    (a17 : PySem.W.nsIn K mainGlobals "walked_on" = some (some (.ref f17)))
    (l17 : K.lookup f17 = some ⟨oc17, od17, .func (PySem.W.fnOf "walked_on" "walked_on" (defArgs s_walked_on) (defBody s_walked_on) (defScope s_walked_on) .none kV17 dc17 pm17 an17 cd17 ct17), sl17⟩)
    (c17 : PySem.W.codeIn K cd17 "walked_on" = true)
    (k17 : PySem.W.keepIn K (.ref f17) = true)
    (a18 : PySem.W.nsIn K mainGlobals "round_from" = some (some (.ref f18)))
    (l18 : K.lookup f18 = some ⟨oc18, od18, .func (PySem.W.fnOf "round_from" "round_from" (defArgs s_round_from) (defBody s_round_from) (defScope s_round_from) .none kV18 dc18 pm18 an18 cd18 ct18), sl18⟩)
    (c18 : PySem.W.codeIn K cd18 "round_from" = true)
    (k18 : PySem.W.keepIn K (.ref f18) = true)
    (a19 : PySem.W.nsIn K mainGlobals "all_rounds" = some (some (.ref f19)))
    (l19 : K.lookup f19 = some ⟨oc19, od19, .func (PySem.W.fnOf "all_rounds" "all_rounds" (defArgs s_all_rounds) (defBody s_all_rounds) (defScope s_all_rounds) .none kV19 dc19 pm19 an19 cd19 ct19), sl19⟩)
    (c19 : PySem.W.codeIn K cd19 "all_rounds" = true)
    (k19 : PySem.W.keepIn K (.ref f19) = true)
    (a20 : PySem.W.nsIn K mainGlobals "steps_to" = some (some (.ref f20)))
    (l20 : K.lookup f20 = some ⟨oc20, od20, .func (PySem.W.fnOf "steps_to" "steps_to" (defArgs s_steps_to) (defBody s_steps_to) (defScope s_steps_to) .none kV20 dc20 pm20 an20 cd20 ct20), sl20⟩)
    (c20 : PySem.W.codeIn K cd20 "steps_to" = true)
    (k20 : PySem.W.keepIn K (.ref f20) = true)
    (a21 : PySem.W.nsIn K mainGlobals "has_each_prime_of" = some (some (.ref f21)))
    (l21 : K.lookup f21 = some ⟨oc21, od21, .func (PySem.W.fnOf "has_each_prime_of" "has_each_prime_of" (defArgs s_has_each_prime_of) (defBody s_has_each_prime_of) (defScope s_has_each_prime_of) .none kV21 dc21 pm21 an21 cd21 ct21), sl21⟩)
    (c21 : PySem.W.codeIn K cd21 "has_each_prime_of" = true)
    (k21 : PySem.W.keepIn K (.ref f21) = true)
    (a22 : PySem.W.nsIn K mainGlobals "is_one_round" = some (some (.ref f22)))
    (l22 : K.lookup f22 = some ⟨oc22, od22, .func (PySem.W.fnOf "is_one_round" "is_one_round" (defArgs s_is_one_round) (defBody s_is_one_round) (defScope s_is_one_round) .none kV22 dc22 pm22 an22 cd22 ct22), sl22⟩)
    (c22 : PySem.W.codeIn K cd22 "is_one_round" = true)
    (k22 : PySem.W.keepIn K (.ref f22) = true)
    (a23 : PySem.W.nsIn K mainGlobals "_law_start_right" = some (some (.ref f23)))
    (l23 : K.lookup f23 = some ⟨oc23, od23, .func (PySem.W.fnOf "_law_start_right" "_law_start_right" (defArgs s_start_right) (defBody s_start_right) (defScope s_start_right) .none kV23 dc23 pm23 an23 cd23 ct23), sl23⟩)
    (c23 : PySem.W.codeIn K cd23 "_law_start_right" = true)
    (k23 : PySem.W.keepIn K (.ref f23) = true)
    (a24 : PySem.W.nsIn K mainGlobals "law" = some (some (.ref f24)))
    (l24 : K.lookup f24 = some ⟨oc24, od24, .func (PySem.W.fnOf "law" "law" (defArgs s_law) (defBody s_law) (defScope s_law) .none kV24 dc24 pm24 an24 cd24 ct24), sl24⟩)
    (c24 : PySem.W.codeIn K cd24 "law" = true)
    (k24 : PySem.W.keepIn K (.ref f24) = true)
    (y_sum : PySem.W.nsIn K mainGlobals "sum" = some none)
    (y_len : PySem.W.nsIn K mainGlobals "len" = some none)
    (y_range : PySem.W.nsIn K mainGlobals "range" = some none)
    (y_isinstance : PySem.W.nsIn K mainGlobals "isinstance" = some none)
    (y_int : PySem.W.nsIn K mainGlobals "int" = some none)
    (y_bool : PySem.W.nsIn K mainGlobals "bool" = some none)
    (y_tuple : PySem.W.nsIn K mainGlobals "tuple" = some none)
    (y_set : PySem.W.nsIn K mainGlobals "set" = some none)
    (y_sorted : PySem.W.nsIn K mainGlobals "sorted" = some none)
    (y_max : PySem.W.nsIn K mainGlobals "max" = some none)
    (xCNhc : PySem.W.isClsIn K CN = true)
    (xCNhg : PySem.W.findIn K (.ref CN) "__getattribute__" = some (some (.builtin "BaseException.__getattribute__")))
    (xCNhk : PySem.W.findIn K (.ref CN) "__getattr__" = some none)
    (xCNhs : PySem.W.subIn K (.ref CN) (.type "BaseException") = some true)
    (xCNhd : PySem.W.hasDictIn K CN = true)
    (xCNha : PySem.W.findIn K (.ref CN) "__class__" = some (some (.builtin "object.__class__")))
    (xCNhm : PySem.W.mroIn K CN (.type "object") = some true)
    (gn : PySem.W.specialIn K (.builtin "object.__class__") "__get__" = some (some (.builtin "getset_descriptor.__get__")))
    (gt : PySem.W.takesIn K (.builtin "object.__class__") = some true)
    (xCNkr : PySem.W.kitOne K (.ref CN) (.ref CR) = some true)
    (xCNkv : PySem.W.kitOne K (.ref CN) (.type "ValueError") = some true)
    (xCNkCB : PySem.W.kitOne K (.ref CN) (.ref CB) = some false)
    (xCNkCN : PySem.W.kitOne K (.ref CN) (.ref CN) = some true)
    (xCNxm : PySem.W.exmOne K (.ref CN) (.ref CR) = some true)
    (xL : K.lookup CN = some (excClassObj nm qn CN Nn bs [.ref CR, .type "ValueError", .type "Exception", .type "BaseException", .type "object"] true sn sub ab col dd m0 m1 m2 m3 m5 "ValueError.__new__"))
    (sa : PySem.W.findIn K (.ref CN) "__setattr__" = some (some (.builtin "object.__setattr__")))
    (tyC : PySem.W.typeIn K (.ref CN) = some (.type "type"))
    (kC : PySem.W.keepIn K (.ref CN) = true)
    (nf : PySem.W.findIn K (.ref CN) "number" = some none)
    (iI : PySem.W.findIn K (.ref CN) "__init__" = some (some (.ref fI)))
    (tI : PySem.W.typeIn K (.ref fI) = some (.type "function"))
    (lI : K.lookup fI = some ⟨ocI, odI, .func (PySem.W.fnOf "__init__" "NoNumber.__init__" (defArgs s_init) (defBody s_init) (defScope s_init) .none kVI dcI pmI anI cdI ctI), slI⟩)
    (cI : PySem.W.codeIn K cdI "NoNumber.__init__" = true)
    (kI : PySem.W.keepIn K (.ref fI) = true)
    (rd : PySem.W.readsIn K CR (.type "type") = true)
    (rg : PySem.W.specialIn K (.ref CR) "__getattribute__" = some (some (.builtin "type.__getattribute__")))
    (ri : PySem.W.findCls K (.ref CR) (.type "type") "__init__" = some (.val (.builtin "ValueError.__init__")))
    (xCBhc : PySem.W.isClsIn K CB = true)
    (xCBhg : PySem.W.findIn K (.ref CB) "__getattribute__" = some (some (.builtin "BaseException.__getattribute__")))
    (xCBhk : PySem.W.findIn K (.ref CB) "__getattr__" = some none)
    (xCBhs : PySem.W.subIn K (.ref CB) (.type "BaseException") = some true)
    (xCBhd : PySem.W.hasDictIn K CB = true)
    (xCBha : PySem.W.findIn K (.ref CB) "__class__" = some (some (.builtin "object.__class__")))
    (xCBhm : PySem.W.mroIn K CB (.type "object") = some true)
    (xCBkr : PySem.W.kitOne K (.ref CB) (.ref CR) = some true)
    (xCBkv : PySem.W.kitOne K (.ref CB) (.type "ValueError") = some true)
    (xCBkCB : PySem.W.kitOne K (.ref CB) (.ref CB) = some true)
    (xCBkCN : PySem.W.kitOne K (.ref CB) (.ref CN) = some false)
    (xCBxm : PySem.W.exmOne K (.ref CB) (.ref CR) = some true)
    (wCBx : PySem.W.excIn K CB [.type "ValueError", .type "Exception", .type "BaseException", .type "object"] "ValueError.__new__" = true)
    (wCBk : PySem.W.keepIn K (.ref CB) = true)
    (wCBy : PySem.W.typeIn K (.ref CB) = some (.type "type")) :
    ∃ fd : FuncData, (∀ (s : Shared) (v : Value), BindsTo s fd ⟨[v], []⟩ [("script", v)]) ∧ ∀ base : Heap, K.In base → base.Ns mainGlobals mg → FnOk l.prog w K mg base CX0 8 fa fd ["script"] (spLaw K) := by
  have e := hfa.symm.trans (PySem.W.mg_of X G a24)
  cases e
  have T_mix : Top K mg "_law_mix" s_mix ["cell", "k"] := top_mk X G a0 l0 c0 k0 fun _ _ _ _ _ _ us hl => match us, hl with | [_, _], _ => rfl
  have T_deck : Top K mg "_law_deck" s_deck ["script"] := top_mk X G a1 l1 c1 k1 fun _ _ _ _ _ _ us hl => match us, hl with | [_], _ => rfl
  have T_next : Top K mg "_law_next" s_next ["deck", "many"] := top_mk X G a2 l2 c2 k2 fun _ _ _ _ _ _ us hl => match us, hl with | [_, _], _ => rfl
  have T_great : Top K mg "_law_great" s_great ["deck", "most"] := top_mk X G a3 l3 c3 k3 fun _ _ _ _ _ _ us hl => match us, hl with | [_, _], _ => rfl
  have T_bound : Top K mg "_law_bound" s_bound ["deck", "most"] := top_mk X G a4 l4 c4 k4 fun _ _ _ _ _ _ us hl => match us, hl with | [_, _], _ => rfl
  have T_rule : Top K mg "_law_rule" s_rule ["deck", "most"] := top_mk X G a5 l5 c5 k5 fun _ _ _ _ _ _ us hl => match us, hl with | [_, _], _ => rfl
  have T_start : Top K mg "_law_start" s_start ["deck", "bound"] := top_mk X G a6 l6 c6 k6 fun _ _ _ _ _ _ us hl => match us, hl with | [_, _], _ => rfl
  have T_is_whole : Top K mg "is_whole" s_is_whole ["thing"] := top_mk X G a7 l7 c7 k7 fun _ _ _ _ _ _ us hl => match us, hl with | [_], _ => rfl
  have T_is_number : Top K mg "is_number" s_is_number ["thing", "bound"] := top_mk X G a8 l8 c8 k8 fun _ _ _ _ _ _ us hl => match us, hl with | [_, _], _ => rfl
  have T_check_number : Top K mg "check_number" s_check_number ["number", "bound"] := top_mk X G a9 l9 c9 k9 fun _ _ _ _ _ _ us hl => match us, hl with | [_, _], _ => rfl
  have T_next_of : Top K mg "next_of" s_next_of ["rule", "number"] := top_mk X G a10 l10 c10 k10 fun _ _ _ _ _ _ us hl => match us, hl with | [_, _], _ => rfl
  have T_common_divisor : Top K mg "common_divisor" s_common_divisor ["one", "other"] := top_mk X G a11 l11 c11 k11 fun _ _ _ _ _ _ us hl => match us, hl with | [_, _], _ => rfl
  have T_inverse : Top K mg "inverse" s_inverse ["number", "bound"] := top_mk X G a12 l12 c12 k12 fun _ _ _ _ _ _ us hl => match us, hl with | [_, _], _ => rfl
  have T_chained : Top K mg "chained" s_chained ["first", "second"] := top_mk X G a13 l13 c13 k13 fun _ _ _ _ _ _ us hl => match us, hl with | [_, _], _ => rfl
  have T_rule_of_steps : Top K mg "rule_of_steps" s_rule_of_steps ["rule", "steps"] := top_mk X G a14 l14 c14 k14 fun _ _ _ _ _ _ us hl => match us, hl with | [_, _], _ => rfl
  have T_rule_back : Top K mg "rule_back" s_rule_back ["rule"] := top_mk X G a15 l15 c15 k15 fun _ _ _ _ _ _ us hl => match us, hl with | [_], _ => rfl
  have T_jumped : Top K mg "jumped" s_jumped ["rule", "start", "steps"] := top_mk X G a16 l16 c16 k16 fun _ _ _ _ _ _ us hl => match us, hl with | [_, _, _], _ => rfl
  have T_walked_on : Top K mg "walked_on" s_walked_on ["rule", "start", "places"] := top_mk X G a17 l17 c17 k17 fun _ _ _ _ _ _ us hl => match us, hl with | [_, _, _], _ => rfl
  have T_round_from : Top K mg "round_from" s_round_from ["rule", "start"] := top_mk X G a18 l18 c18 k18 fun _ _ _ _ _ _ us hl => match us, hl with | [_, _], _ => rfl
  have T_all_rounds : Top K mg "all_rounds" s_all_rounds ["rule"] := top_mk X G a19 l19 c19 k19 fun _ _ _ _ _ _ us hl => match us, hl with | [_], _ => rfl
  have T_steps_to : Top K mg "steps_to" s_steps_to ["rule", "start", "number"] := top_mk X G a20 l20 c20 k20 fun _ _ _ _ _ _ us hl => match us, hl with | [_, _, _], _ => rfl
  have T_has_each_prime_of : Top K mg "has_each_prime_of" s_has_each_prime_of ["bound", "number"] := top_mk X G a21 l21 c21 k21 fun _ _ _ _ _ _ us hl => match us, hl with | [_, _], _ => rfl
  have T_is_one_round : Top K mg "is_one_round" s_is_one_round ["rule"] := top_mk X G a22 l22 c22 k22 fun _ _ _ _ _ _ us hl => match us, hl with | [_], _ => rfl
  have T_start_right : Top K mg "_law_start_right" s_start_right ["deck", "rule", "start", "rounds"] := top_mk X G a23 l23 c23 k23 fun _ _ _ _ _ _ us hl => match us, hl with | [_, _, _, _], _ => rfl
  have T_law : Top K mg "law" s_law ["script"] := top_mk X G a24 l24 c24 k24 fun _ _ _ _ _ _ us hl => match us, hl with | [_], _ => rfl
  have z_sum := PySem.W.mg_none_of X G y_sum
  have z_len := PySem.W.mg_none_of X G y_len
  have z_range := PySem.W.mg_none_of X G y_range
  have z_isinstance := PySem.W.mg_none_of X G y_isinstance
  have z_int := PySem.W.mg_none_of X G y_int
  have z_bool := PySem.W.mg_none_of X G y_bool
  have z_tuple := PySem.W.mg_none_of X G y_tuple
  have z_set := PySem.W.mg_none_of X G y_set
  have z_sorted := PySem.W.mg_none_of X G y_sorted
  have z_max := PySem.W.mg_none_of X G y_max
  have G_CR := PySem.W.mg_of X G aCR
  have G_CB := PySem.W.mg_of X G aCB
  have G_CN := PySem.W.mg_of X G aCN
  have ox : OexC K CN := ⟨⟨nm, qn, Nn, bs, _, sn, sub, ab, col, dd, m0, m1, m2, m3, m5, xL, rfl⟩, sa, xCNhs, tyC, kC⟩
  have FI := fun_mk (x := "__init__") (qual := "NoNumber.__init__") (st := s_init) lI cI kI
  have bI := FI.binds (ps := ["self", "number"]) fun _ _ _ _ _ _ us hl => match us, hl with | [_, _], _ => rfl
  have RI : ClX.CRead K CR (.type "type") := ⟨rd, rg⟩
  refine ⟨PySem.W.fnOf "law" "law" (defArgs s_law) (defBody s_law) (defScope s_law) .none kV24 dc24 pm24 an24 cd24 ct24, fun s v => .of_eq rfl, fun base _ _ => ?_⟩
  have FL := fun_mk (st := s_law) l24 c24 k24

  have o_mix := ok_mix (P := l.prog) (w := w) (base := base) T_mix
  have o_next := ok_next T_next o_mix z_len
  have o_great := ok_great T_great o_next
  have o_bound := ok_bound T_bound o_next o_great z_len z_range
  have o_rule := ok_rule T_rule o_next o_great o_bound
  have o_whole := ok_is_whole (P := l.prog) (w := w) (base := base) T_is_whole z_isinstance z_int z_bool
  have o_check := ok_check_number T_check_number (ok_is_number T_is_number o_whole) ox iI tI (ok_init FI G_CR RI ri) bI G_CN nf
  have o_nextof := ok_next_of T_next_of o_check
  have o_gcd := ok_common_divisor (P := l.prog) (w := w) (base := base) T_common_divisor
  have o_ros := ok_rule_of_steps T_rule_of_steps (ok_chained (P := l.prog) (w := w) (base := base) T_chained)
  have o_rb := ok_rule_back T_rule_back o_gcd (ok_inverse T_inverse) wCBx G_CB wCBk xCBhs wCBy
  have o_jump := ok_jumped T_jumped o_check o_nextof o_ros o_rb
  have o_walk := ok_walked_on T_walked_on o_nextof z_len
  have o_rf := ok_round_from T_round_from o_check o_walk z_len
  have o_all := ok_all_rounds T_all_rounds o_walk z_len z_range z_tuple z_sorted
  have o_st := ok_steps_to T_steps_to o_check o_walk
  have o_one := ok_is_one_round T_is_one_round o_gcd (ok_has_each T_has_each_prime_of o_gcd)
  have o_sr := ok_start_right T_start_right o_next o_rf o_jump o_st o_nextof o_ros z_max
  exact ok_law FL (ok_deck T_deck z_sum) o_rule (ok_start T_start o_next o_great) o_all o_ros o_nextof o_one o_sr z_range z_len z_set z_sum
end Tw
open PySem PySem.W PyProof.Rows
set_option maxHeartbeats 0 in
theorem PySem.Challenge.cw_timesrow_k10_whole_rounds_holds : PySem.Challenge.rw_timesrow_k10_whole_rounds.Holds := by
  w_on; o_law; k_head; (case hw => w_witness2)
  k_fill
  refine L2.walk_of (l := PySem.Challenge.rw_timesrow_k10_whole_rounds) (n := 63) (k := 8) (x := "script") (CX := fun _ => L2.CX0) (sp := fun w => Tw.spLaw _) rfl (by decide) rfl ⟨rfl, by decide, by decide⟩ (fun w h Y => PySem.W.kIn_of Y) ?F (fun _ _ a ns hl _ hS => ⟨_, rfl, a, ns, rfl, hS, fun _ => rfl⟩) (fun _ _ _ _ _ h => h)
  case F =>
    intro w mg fa h KX G hmg
    refine' Tw.all_mk KX G hmg ?aCR ?aCB ?aCN ?a0 ?l0 ?c0 ?k0 ?a1 ?l1 ?c1 ?k1 ?a2 ?l2 ?c2 ?k2 ?a3 ?l3 ?c3 ?k3 ?a4 ?l4 ?c4 ?k4 ?a5 ?l5 ?c5 ?k5 ?a6 ?l6 ?c6 ?k6 ?a7 ?l7 ?c7 ?k7 ?a8 ?l8 ?c8 ?k8 ?a9 ?l9 ?c9 ?k9 ?a10 ?l10 ?c10 ?k10 ?a11 ?l11 ?c11 ?k11 ?a12 ?l12 ?c12 ?k12 ?a13 ?l13 ?c13 ?k13 ?a14 ?l14 ?c14 ?k14 ?a15 ?l15 ?c15 ?k15 ?a16 ?l16 ?c16 ?k16 ?a17 ?l17 ?c17 ?k17 ?a18 ?l18 ?c18 ?k18 ?a19 ?l19 ?c19 ?k19 ?a20 ?l20 ?c20 ?k20 ?a21 ?l21 ?c21 ?k21 ?a22 ?l22 ?c22 ?k22 ?a23 ?l23 ?c23 ?k23 ?a24 ?l24 ?c24 ?k24 ?y_sum ?y_len ?y_range ?y_isinstance ?y_int ?y_bool ?y_tuple ?y_set ?y_sorted ?y_max ?xCNhc ?xCNhg ?xCNhk ?xCNhs ?xCNhd ?xCNha ?xCNhm ?gn ?gt ?xCNkr ?xCNkv ?xCNkCB ?xCNkCN ?xCNxm ?xL ?sa ?tyC ?kC ?nf ?iI ?tI ?lI ?cI ?kI ?rd ?rg ?ri ?xCBhc ?xCBhg ?xCBhk ?xCBhs ?xCBhd ?xCBha ?xCBhm ?xCBkr ?xCBkv ?xCBkCB ?xCBkCN ?xCBxm ?wCBx ?wCBk ?wCBy
    (case aCR => first | k_is | rfl | k_exc)
    (case aCB => first | k_is | rfl | k_exc)
    (case aCN => first | k_is | rfl | k_exc)
    (case a0 => first | k_is | rfl | k_exc)
    (case l0 => first | k_is | rfl | k_exc)
    (case c0 => first | k_is | rfl | k_exc)
    (case k0 => first | k_is | rfl | k_exc)
    (case a1 => first | k_is | rfl | k_exc)
    (case l1 => first | k_is | rfl | k_exc)
    (case c1 => first | k_is | rfl | k_exc)
    (case k1 => first | k_is | rfl | k_exc)
    (case a2 => first | k_is | rfl | k_exc)
    (case l2 => first | k_is | rfl | k_exc)
    (case c2 => first | k_is | rfl | k_exc)
    (case k2 => first | k_is | rfl | k_exc)
    (case a3 => first | k_is | rfl | k_exc)
    (case l3 => first | k_is | rfl | k_exc)
    (case c3 => first | k_is | rfl | k_exc)
    (case k3 => first | k_is | rfl | k_exc)
    (case a4 => first | k_is | rfl | k_exc)
    (case l4 => first | k_is | rfl | k_exc)
    (case c4 => first | k_is | rfl | k_exc)
    (case k4 => first | k_is | rfl | k_exc)
    (case a5 => first | k_is | rfl | k_exc)
    (case l5 => first | k_is | rfl | k_exc)
    (case c5 => first | k_is | rfl | k_exc)
    (case k5 => first | k_is | rfl | k_exc)
    (case a6 => first | k_is | rfl | k_exc)
    (case l6 => first | k_is | rfl | k_exc)
    (case c6 => first | k_is | rfl | k_exc)
    (case k6 => first | k_is | rfl | k_exc)
    (case a7 => first | k_is | rfl | k_exc)
    (case l7 => first | k_is | rfl | k_exc)
    (case c7 => first | k_is | rfl | k_exc)
    (case k7 => first | k_is | rfl | k_exc)
    (case a8 => first | k_is | rfl | k_exc)
    (case l8 => first | k_is | rfl | k_exc)
    (case c8 => first | k_is | rfl | k_exc)
    (case k8 => first | k_is | rfl | k_exc)
    (case a9 => first | k_is | rfl | k_exc)
    (case l9 => first | k_is | rfl | k_exc)
    (case c9 => first | k_is | rfl | k_exc)
    (case k9 => first | k_is | rfl | k_exc)
    (case a10 => first | k_is | rfl | k_exc)
    (case l10 => first | k_is | rfl | k_exc)
    (case c10 => first | k_is | rfl | k_exc)
    (case k10 => first | k_is | rfl | k_exc)
    (case a11 => first | k_is | rfl | k_exc)
    (case l11 => first | k_is | rfl | k_exc)
    (case c11 => first | k_is | rfl | k_exc)
    (case k11 => first | k_is | rfl | k_exc)
    (case a12 => first | k_is | rfl | k_exc)
    (case l12 => first | k_is | rfl | k_exc)
    (case c12 => first | k_is | rfl | k_exc)
    (case k12 => first | k_is | rfl | k_exc)
    (case a13 => first | k_is | rfl | k_exc)
    (case l13 => first | k_is | rfl | k_exc)
    (case c13 => first | k_is | rfl | k_exc)
    (case k13 => first | k_is | rfl | k_exc)
    (case a14 => first | k_is | rfl | k_exc)
    (case l14 => first | k_is | rfl | k_exc)
    (case c14 => first | k_is | rfl | k_exc)
    (case k14 => first | k_is | rfl | k_exc)
    (case a15 => first | k_is | rfl | k_exc)
    (case l15 => first | k_is | rfl | k_exc)
    (case c15 => first | k_is | rfl | k_exc)
    (case k15 => first | k_is | rfl | k_exc)
    (case a16 => first | k_is | rfl | k_exc)
    (case l16 => first | k_is | rfl | k_exc)
    (case c16 => first | k_is | rfl | k_exc)
    (case k16 => first | k_is | rfl | k_exc)
    (case a17 => first | k_is | rfl | k_exc)
    (case l17 => first | k_is | rfl | k_exc)
    (case c17 => first | k_is | rfl | k_exc)
    (case k17 => first | k_is | rfl | k_exc)
    (case a18 => first | k_is | rfl | k_exc)
    (case l18 => first | k_is | rfl | k_exc)
    (case c18 => first | k_is | rfl | k_exc)
    (case k18 => first | k_is | rfl | k_exc)
    (case a19 => first | k_is | rfl | k_exc)
    (case l19 => first | k_is | rfl | k_exc)
    (case c19 => first | k_is | rfl | k_exc)
    (case k19 => first | k_is | rfl | k_exc)
    (case a20 => first | k_is | rfl | k_exc)
    (case l20 => first | k_is | rfl | k_exc)
    (case c20 => first | k_is | rfl | k_exc)
    (case k20 => first | k_is | rfl | k_exc)
    (case a21 => first | k_is | rfl | k_exc)
    (case l21 => first | k_is | rfl | k_exc)
    (case c21 => first | k_is | rfl | k_exc)
    (case k21 => first | k_is | rfl | k_exc)
    (case a22 => first | k_is | rfl | k_exc)
    (case l22 => first | k_is | rfl | k_exc)
    (case c22 => first | k_is | rfl | k_exc)
    (case k22 => first | k_is | rfl | k_exc)
    (case a23 => first | k_is | rfl | k_exc)
    (case l23 => first | k_is | rfl | k_exc)
    (case c23 => first | k_is | rfl | k_exc)
    (case k23 => first | k_is | rfl | k_exc)
    (case a24 => first | k_is | rfl | k_exc)
    (case l24 => first | k_is | rfl | k_exc)
    (case c24 => first | k_is | rfl | k_exc)
    (case k24 => first | k_is | rfl | k_exc)
    (case y_sum => first | k_is | rfl | k_exc)
    (case y_len => first | k_is | rfl | k_exc)
    (case y_range => first | k_is | rfl | k_exc)
    (case y_isinstance => first | k_is | rfl | k_exc)
    (case y_int => first | k_is | rfl | k_exc)
    (case y_bool => first | k_is | rfl | k_exc)
    (case y_tuple => first | k_is | rfl | k_exc)
    (case y_set => first | k_is | rfl | k_exc)
    (case y_sorted => first | k_is | rfl | k_exc)
    (case y_max => first | k_is | rfl | k_exc)
    (case xCNhc => first | k_is | rfl | k_exc)
    (case xCNhg => first | k_is | rfl | k_exc)
    (case xCNhk => first | k_is | rfl | k_exc)
    (case xCNhs => first | k_is | rfl | k_exc)
    (case xCNhd => first | k_is | rfl | k_exc)
    (case xCNha => first | k_is | rfl | k_exc)
    (case xCNhm => first | k_is | rfl | k_exc)
    (case gn => first | k_is | rfl | k_exc)
    (case gt => first | k_is | rfl | k_exc)
    (case xCNkr => first | k_is | rfl | k_exc)
    (case xCNkv => first | k_is | rfl | k_exc)
    (case xCNkCB => first | k_is | rfl | k_exc)
    (case xCNkCN => first | k_is | rfl | k_exc)
    (case xCNxm => first | k_is | rfl | k_exc)
    (case xL => first | k_is | rfl | k_exc)
    (case sa => first | k_is | rfl | k_exc)
    (case tyC => first | k_is | rfl | k_exc)
    (case kC => first | k_is | rfl | k_exc)
    (case nf => first | k_is | rfl | k_exc)
    (case iI => first | k_is | rfl | k_exc)
    (case tI => first | k_is | rfl | k_exc)
    (case lI => first | k_is | rfl | k_exc)
    (case cI => first | k_is | rfl | k_exc)
    (case kI => first | k_is | rfl | k_exc)
    (case rd => first | k_is | rfl | k_exc)
    (case rg => first | k_is | rfl | k_exc)
    (case ri => first | k_is | rfl | k_exc)
    (case xCBhc => first | k_is | rfl | k_exc)
    (case xCBhg => first | k_is | rfl | k_exc)
    (case xCBhk => first | k_is | rfl | k_exc)
    (case xCBhs => first | k_is | rfl | k_exc)
    (case xCBhd => first | k_is | rfl | k_exc)
    (case xCBha => first | k_is | rfl | k_exc)
    (case xCBhm => first | k_is | rfl | k_exc)
    (case xCBkr => first | k_is | rfl | k_exc)
    (case xCBkv => first | k_is | rfl | k_exc)
    (case xCBkCB => first | k_is | rfl | k_exc)
    (case xCBkCN => first | k_is | rfl | k_exc)
    (case xCBxm => first | k_is | rfl | k_exc)
    (case wCBx => first | k_is | rfl | k_exc)
    (case wCBk => first | k_is | rfl | k_exc)
    (case wCBy => first | k_is | rfl | k_exc)

