import PyProof.Rows.All
import Wide.All
import OpenK.AllK
import Wide.FinOn
import PyProof.EqAt
import PyProof.EqKinds
import PyProof.TupleCall
import KE.KExcIs
import HandS.ForMost
import HandS.ForExc
import HandS.ExcInit
import HandS.ExcField
import HandS.IsInst
import HandS.ClsMeth
import HandS.Wide
import HandS.SetFor
import HandS.Codes
import HandS.Style
import HandS.Set
import HandS.Strs
import HandS.SortInts
import HandS.DictTup
import HandS.ListItems
import HandS.Conv
import PySem.Challenge.RW_timesrow_k07_all_rounds
set_option Elab.async false
set_option linter.all false
set_option maxRecDepth 100000
set_option maxHeartbeats 4000000
/-! Own rules over the hand layer: a caught exception kept as a value, its class asked, its field read; the base's own initialiser reached through an own class; products and quotients by plain bounds. -/
namespace Tw
open PySem PySem.Spec PyProof.Rows L2

/-! ### an exception held as a value -/
def exv (a : Addr) (cls : Value) (d : Option Addr) : HO := .ext fun h => ∃ (oe : Obj) (vs : Array Value), h.get? a = some oe ∧ Zc cls d oe ∧ oe.data = .fields vs
theorem exv_ok {P : Program} {w : World} {H : Hp} {h : Heap} {a : Addr} {cls : Value} {d : Option Addr} {oe : Obj} {vs : Array Value} (he : h.get? a = some oe) (hz : Zc cls d oe) (hd : oe.data = .fields vs) : ObjOk P w H h a (exv a cls d) :=
  ⟨⟨oe, vs, he, hz, hd⟩, ⟨oe, he⟩, fun _ _ z k => by
    obtain ⟨o, v, e, q⟩ := z
    exact ⟨o, v, k _ e, q⟩⟩
theorem exv_at {P : Program} {w : World} {H : Hp} {h : Heap} {a : Addr} {cls : Value} {d : Option Addr} (hok : HOk P w H h) (he : H a = some (exv a cls d)) : ∃ (oe : Obj) (vs : Array Value), h.get? a = some oe ∧ Zc cls d oe ∧ oe.data = .fields vs := by
  have x : ObjOk P w H h a (.ext fun h => ∃ (oe : Obj) (vs : Array Value), h.get? a = some oe ∧ Zc cls d oe ∧ oe.data = .fields vs) := hok a _ he
  exact x.1
section
variable {X : Cx} {pins : List (Addr × Obj)} {σ : L2.St} {H : Hp} {s : Shared}
/-- an object of ours that was not tracked is tracked from here on -/
theorem track {a : Addr} {o : HO} (I : Inv X pins σ H s) (na : H a = none) (h0 : ∀ ob, X.s_0.heap.get? a = some ob → X.H_0 a = none → a ∉ X.ex → False) (hL : a ≠ X.env.locals)
    (hc : ∀ x c, X.env.cells.lookup x = some c → c ≠ a) (hp : ∀ p ∈ X.pn ++ pins, p.1 ≠ a) (new : ObjOk X.prog X.w (upd H a o) s.heap a o) : Inv X pins σ (upd H a o) s := by
  have ne : ∀ {b : Addr} {u : HO}, H b = some u → b ≠ a := fun {b u} e => ne_of_none e na
  refine ⟨I.ok, I.os, I.bare, ⟨I.base.keep, I.base.slot, fun b ob e n hx => ?_, I.base.there, fun b xs e => ?_, fun b ob u e => ?_, fun b ps e => ?_⟩, I.loc, I.cell, ?_, fun x c e => ?_, fun p q => ?_, fun b u e => ?_, I.len⟩
  · have nb : b ≠ a := fun z => h0 ob (z ▸ e) (z ▸ n) (z ▸ hx)
    rw [upd_ne nb]
    exact I.base.free b ob e n hx
  · have q := I.base.tups b xs e
    rw [upd_ne (ne q)]
    exact q
  · have q := I.base.frzs b ob u e
    rw [upd_ne (ne q)]
    exact q
  · obtain ⟨more, q⟩ := I.base.tbls b ps e
    exact ⟨more, by rw [upd_ne (ne q)]; exact q⟩
  · rw [upd_ne (Ne.symm hL)]
    exact I.free
  · rw [upd_ne (hc x c e)]
    exact I.freeC x c e
  · obtain ⟨e, n, l, f, d⟩ := I.pin p q
    exact ⟨e, by rw [upd_ne (hp p q)]; exact n, l, f, d⟩
  · by_cases hb : b = a
    · subst hb
      rw [upd_same] at e
      cases e
      exact new
    · rw [upd_ne hb] at e
      exact (I.hok b u e).stay (fun _ _ _ q => q) (fun c q => by rw [upd_ne (ne q)]; exact q) (fun c xs q => by rw [upd_ne (ne q)]; exact q)
/-- into an except suite and out of it: nothing more is pinned there than was before -/
theorem toSuite (I : Inv X pins σ H s) (a : Addr) : Inv (X.suite a (X.pn ++ pins)) [] σ H s :=
  { ok := I.ok.suite _ _, os := I.os, bare := I.bare, base := I.base, loc := I.loc, cell := I.cell, free := I.free, freeC := I.freeC, hok := I.hok, len := I.len
    pin := fun p hp => I.pin p ((List.append_nil (X.pn ++ pins)) ▸ hp) }
theorem ofSuite {a : Addr} {more : List (Addr × Obj)} (I : Inv (X.suite a (X.pn ++ pins)) more σ H s) (ok : X.Ok) : Inv X pins σ H s :=
  { ok := ok, os := I.os, bare := I.bare, base := I.base, loc := I.loc, cell := I.cell, free := I.free, freeC := I.freeC, hok := I.hok, len := I.len
    pin := fun p hp => I.pin p (List.mem_append_left more hp) }
/-- no frame is a record -/
theorem rec_noframe {h B : Heap} {l : List Env} {a : Addr} {o : Obj} {vs : Array Value} (ff : h.FunFrames B l) (e : h.get? a = some o) (dd : o.data = .fields vs) : a ∉ frs l := fun hm => by
  obtain ⟨_, o2, e2, nf⟩ := ff.mem hm
  have z := Option.some.inj (e.symm.trans e2)
  subst z
  exact nf vs dd
/-- an address that the ground does not know is younger than the def's entry, and is not pinned -/
theorem young {B : Heap} {a : Addr} (J : Inv X pins σ H s) (gr : ∀ b o, s.heap.get? b = some o → b ∉ frs X.stack → B.get? b = some o) (hB : B.get? a = none) (nS : a ∉ frs X.stack) (nF : a ∉ X.fs) :
    (∀ ob, X.s_0.heap.get? a = some ob → X.H_0 a = none → a ∉ X.ex → False) ∧ ∀ p ∈ X.pn ++ pins, p.1 ≠ a := by
  constructor
  · intro ob e n hx
    have z := gr a ob (J.base.keep a ob e n nF hx) nS
    rw [hB] at z
    cases z
  · intro p hp z
    obtain ⟨e, _, l, f, _⟩ := J.pin p hp
    have y := gr p.1 p.2 e (fun hm => (List.mem_cons.mp (J.stkSub p.1 hm)).elim l f)
    rw [z, hB] at y
    cases y
end
/-- what the clause wishes of an exception of the body: the clause takes it; it is held, and stays held behind the suite -/
def wKeep (K : PySem.W.Frag) (c : Value) (i : Nat) (ts : TS) (D : Ends) : WX := fun cls d σ H =>
  PySem.W.exmOne K cls c = some true ∧ ∀ a, H a = none → ts { nx := fun σ1 H1 => D.nx (σ1.set i none) H1, rt := D.rt, bk := fun σ1 H1 => D.bk (σ1.set i none) H1, ct := fun σ1 H1 => D.ct (σ1.set i none) H1 } (σ.set i (some (.ref a))) (upd H a (exv a cls d))
section
variable {X : Cx} {x n : Str} {c : Value} {i : Nat} {body suite : List Stmt} {b0 : Stmt} {np pos pos' : Pos} {tb : WX → TS} {ts : TS}
/-- the clause's name is looked up while the exception is handled -/
theorem clause_name {pins : List (Addr × Obj)} {σ : L2.St} {H : Hp} {s : Shared} {a : Addr} {Q : Value → Shared → Prop} {E : Value → Shared → Prop} (hc : Names X x c) (I : Inv X pins σ H s) (q : Q c s) :
    wpAny (model X.prog X.w) (X.A.mark (some (.ref a))) (eval (.Name x np) X.env) Q E s := by
  have J := toSuite I a
  obtain ⟨g, nd, m | ⟨m, v, nn⟩⟩ := hc
  · exact ld_glob (X := X.suite a (X.pn ++ pins)) J g m q nd
  · exact ld_blt (X := X.suite a (X.pn ++ pins)) J g m v q nn nd
/-- behind the suite: the name goes, and the way goes on as it would -/
theorem suite_done {pins : List (Addr × Obj)} {a : Addr} {D : Ends} {fl : Flow} {s : Shared} (ok : X.Ok) (hN : X.N.Nodup) (hi : X.N[i]? = some n) (hln : X.env.kindOf n = some .local)
    (h : SP (X.suite a (X.pn ++ pins)) [] { nx := fun σ1 H1 => D.nx (σ1.set i none) H1, rt := D.rt, bk := fun σ1 H1 => D.bk (σ1.set i none) H1, ct := fun σ1 H1 => D.ct (σ1.set i none) H1 } fl s) :
    wpAny (model X.prog X.w) X.A (do bindName X.env n .none; unbindBehindTheSuite X.env n pos') (fun _ s7 => SP X pins D fl s7) X.xe s := by
  cases fl with
  | next => obtain ⟨_, _, S, q⟩ := h; exact gone_ok (ofSuite S ok) hN hi hln fun _ J => ⟨_, _, J, q⟩
  | brk => obtain ⟨_, _, S, q⟩ := h; exact gone_ok (ofSuite S ok) hN hi hln fun _ J => ⟨_, _, J, q⟩
  | cont => obtain ⟨_, _, S, q⟩ := h; exact gone_ok (ofSuite S ok) hN hi hln fun _ J => ⟨_, _, J, q⟩
  | ret u => obtain ⟨_, _, _, S, r, q⟩ := h; exact gone_ok (ofSuite S ok) hN hi hln fun _ J => ⟨_, _, _, J, r, q⟩
/-- an exception in the air of the try's body, met by the clause -/
theorem met {pins : List (Addr × Obj)} {xe : Value → Shared → Prop} {D : Ends} {u : Value} {s1 : Shared} (ok : X.Ok) (hs : X.stack = X.env :: X.outer) (hf : X.env.frame = some X.env.locals) (hN : X.N.Nodup) (hi : X.N[i]? = some n) (hln : X.env.kindOf n = some .local) (hc : Names X x c)
    (hsu : ∀ (a : Addr) (pn : List (Addr × Obj)), PSs (X.suite a pn) (b0 :: suite) ts) (air : XE (X.tr (X.pn ++ pins) xe) (wKeep X.K c i ts D) u s1) :
    wpAny (model X.prog X.w) X.A (noteFrame u X.env) (fun _ s2 => wpAny (model X.prog X.w) X.A (setFlight u none) (fun _ s3 =>
      wpAny (model X.prog X.w) X.A (handleBy u X.env [.ExceptHandler (some (.Name x np)) (some n) (b0 :: suite) pos']) (SP X pins D) X.xe s3) X.xe s2) X.xe s1 := by
  obtain ⟨a, B, sI, _, σ1, H1, cls, d, rfl, J0, gr, up, sky, na, os, ag, xm, yes⟩ := air
  have J : Inv X pins σ1 H1 sI := J0.ofTry ok
  have top : X.A.frames = some (X.env :: X.outer) := ok.frames.trans (congrArg some hs)
  have sky1 : Sky B (X.env :: X.outer) a (Zc cls d) X.env.locals s1.heap := hs ▸ sky
  refine Sky.land Zc.steady top hf sky1 fun h3 fly3 up3 => ?_
  have J3 : Inv X pins σ1 H1 { s1 with heap := h3 } := J.landed gr fly3.1 (up.trans up3) os ag
  obtain ⟨oe3, vs3, at3, z3, d3⟩ := fly3.there
  have nfr : a ∉ frs (X.env :: X.outer) := rec_noframe fly3.2.2.1 at3 d3
  have nS : a ∉ frs X.stack := hs ▸ nfr
  have nL : a ≠ X.env.locals := fun z => nfr (List.mem_filterMap.mpr ⟨X.env, List.mem_cons_self, by rw [hf, z]⟩)
  have nF : a ∉ X.fs := fun hm => let ⟨e, he, q⟩ := List.mem_filterMap.mp hm; nfr (List.mem_filterMap.mpr ⟨e, List.mem_cons_of_mem _ he, q⟩)
  have TY : PySem.W.Looks (model X.prog X.w) h3 (typeOf (.ref a)) cls := fun _ _ _ _ k q => wpAny_typeOf_ref (k _ _ at3) (z3.1.symm ▸ q)
  refine wpAny_handleBy_cons (codeAny_handlers_test (clause_name hc J3 ((PySem.W.exm_one (M := model X.prog X.w) J3.kIn TY xm).here ?_))) (fun q => by cases q)
  refine codeAny_handlers_suite_as (HandSPX.lands_againZ fly3 fun h4 fly4 up4 => ?_)
  have J4 : Inv X pins σ1 H1 { s1 with heap := h4 } := J.landed gr fly4.1 ((up.trans up3).trans up4) os ag
  obtain ⟨oe, vs, at4, z4, d4⟩ := fly4.there
  obtain ⟨y1, y2⟩ := young J gr fly4.2.1 nS nF
  have ncell : ∀ y cc, X.env.cells.lookup y = some cc → cc ≠ a := fun y cc e z => by
    obtain ⟨_, oc, hoc, hdc⟩ := J4.cell y cc e
    subst z
    have w1 : oe = oc := Option.some.inj (at4.symm.trans hoc)
    rw [← w1, d4] at hdc
    cases hdc
  have J5 := toSuite (track (o := exv a cls d) J4 na y1 nL ncell y2 (exv_ok at4 z4 d4)) a
  refine store_ok (X := X.suite a (X.pn ++ pins)) (v := .ref a) J5 hN hi (.inl hln) rfl (fun s5 S5 => ?_) (.inr hln)
  exact wpAny_mono ((hsu a (X.pn ++ pins)).run [] s5 _ _ _ S5 (yes a na)) (fun fl s6 h6 => suite_done ok hN hi hln h6) (fun _ _ z => z.elim)
theorem ps_try_keep (hs : X.stack = X.env :: X.outer) (hf : X.env.frame = some X.env.locals) (hN : X.N.Nodup) (hi : X.N[i]? = some n) (hln : X.env.kindOf n = some .local) (hc : Names X x c)
    (hb : ∀ (W : WX) (pn : List (Addr × Obj)) (xe : Value → Shared → Prop), Takes (X.tr pn xe) W → PassesOwn (model X.prog X.w) X.A X.env xe → PSs (X.tr pn xe) body (tb W))
    (hsu : ∀ (a : Addr) (pn : List (Addr × Obj)), PSs (X.suite a pn) (b0 :: suite) ts) :
    PS X (.Try body [.ExceptHandler (some (.Name x np)) (some n) (b0 :: suite) pos'] [] [] pos) (fun D σ H => tb (wKeep X.K c i ts D) D σ H) := by
  refine ⟨fun pins s σ H D I h => wpAny_Try_except ?_⟩
  have ok := I.ok
  refine wpAny_mono ((hb _ (X.pn ++ pins) _ (fun u s1 air => met ok hs hf hN hi hln hc hsu air) PassesOwn.looking).run [] s σ H D (I.toTry _) h) (fun fl s1 r => ?_) (fun _ _ q => q)
  cases fl with
  | next => obtain ⟨_, _, J, q⟩ := r; exact wpAny_execs_nil ⟨_, _, J.ofTry ok, q⟩
  | brk => obtain ⟨_, _, J, q⟩ := r; exact ⟨_, _, J.ofTry ok, q⟩
  | cont => obtain ⟨_, _, J, q⟩ := r; exact ⟨_, _, J.ofTry ok, q⟩
  | ret u => obtain ⟨_, _, _, J, v, q⟩ := r; exact ⟨_, _, _, J.ofTry ok, v, q⟩
end

/-! ### isinstance of a held exception -/
/-- what is asked of an own exception class -/
structure XcC (K : PySem.W.Frag) (D : Addr) : Prop where
  hc : PySem.W.isClsIn K D = true
  hg : PySem.W.findIn K (.ref D) "__getattribute__" = some (some (.builtin "BaseException.__getattribute__"))
  hk : PySem.W.findIn K (.ref D) "__getattr__" = some none
  hs : PySem.W.subIn K (.ref D) (.type "BaseException") = some true
  hd : PySem.W.hasDictIn K D = true
  ha : PySem.W.findIn K (.ref D) "__class__" = some (some (.builtin "object.__class__"))
  hn : PySem.W.specialIn K (.builtin "object.__class__") "__get__" = some (some (.builtin "getset_descriptor.__get__"))
  ht : PySem.W.takesIn K (.builtin "object.__class__") = some true
  hm : PySem.W.mroIn K D (.type "object") = some true
section
variable {X : Cx} {pins : List (Addr × Obj)} {σ : L2.St} {H : Hp} {s : Shared}
/-- a held exception, its dict as the heap tells it -/
def HasD (H : Hp) (d : Option Addr) : Prop := ∀ dx, d = some dx → ∃ fs, H dx = some (.xd fs)
theorem inst_of {a D : Addr} {d : Option Addr} (I : Inv X pins σ H s) (e : H a = some (exv a (.ref D) d)) (hd : HasD H d) : ∃ oe od, PySem.W.InstAt s.heap a oe D od := by
  obtain ⟨oe, vs, he, hz, hv⟩ := exv_at I.hok e
  have nc : PySem.W.notCls oe = true := by unfold PySem.W.notCls; rw [hv] <;> rfl
  cases d with
  | none => exact ⟨oe, none, he, hz.1, nc, by rw [hz.2]; trivial⟩
  | some dx =>
    obtain ⟨fs, ed⟩ := hd dx rfl
    have hx : ObjOk X.prog X.w H s.heap dx (.xd fs) := I.hok dx _ ed
    obtain ⟨mA, hns, hr⟩ := hx
    obtain ⟨od, ho, hl⟩ := lookIn_ns hns
    exact ⟨oe, some od, he, hz.1, nc, by rw [hz.2]; exact ho⟩
end
/-- isinstance(e, c), e a held exception of the class at D -/
def rIsX (K : PySem.W.Frag) : List V → Hp → VK → Prop := fun xs H Q => ∃ (a D : Addr) (d : Option Addr) (c : V) (u : Value) (b : Bool), xs = [.ref a, c] ∧ ClsV c u ∧ H a = some (exv a (.ref D) d) ∧ HasD H d ∧ XcC K D ∧ PySem.W.kitOne K (.ref D) u = some b ∧ Q (.bl b) H
theorem call_isX {X : Cx} : CallR X (.builtin "isinstance") (rIsX X.K) := by
  intro pins s σ H xs us Q I r h
  obtain ⟨a, D, d, c, u, b, rfl, k, ea, hd, T, e, q⟩ := h
  obtain ⟨u1, u2, rfl, r1, r2⟩ := vals2 r
  cases (show u1 = Value.ref a from r1)
  have e2 := k.eq r2
  subst e2
  obtain ⟨oe, od, J⟩ := inst_of I ea hd
  exact PySem.W.kia_one (PySem.W.kitx_exc T.hc T.hg T.hk T.hs T.ha T.hn T.ht T.hm) I.kIn J e (fun z => nomatch z) fun tk => ⟨.bl b, H, I.tok tk, rfl, q⟩
/-- both: a held exception, or anything that the layer knows -/
def rIsA (K : PySem.W.Frag) : List V → Hp → VK → Prop := fun xs H Q => rIsX K xs H Q ∨ rIsi K xs H Q
theorem call_isA {X : Cx} : CallR X (.builtin "isinstance") (rIsA X.K) := by
  intro pins s σ H xs us Q I r h
  rcases h with h | h
  · exact call_isX pins s σ H xs us Q I r h
  · exact call_isi pins s σ H xs us Q I r h

/-! ### a field of a held exception -/
def tXv (K : PySem.W.Frag) (f : Str) (te : TE) : TE := fun σ H Q => te σ H fun x H1 => ∃ (a C dd : Addr) (fs : List (Str × V)) (v : V), x = .ref a ∧ H1 a = some (exv a (.ref C) (some dd)) ∧ XcC K C ∧ PySem.W.findIn K (.ref C) f = some none ∧ H1 dd = some (.xd fs) ∧ fs.lookup f = some v ∧ Q v H1
theorem pe_xv {X : Cx} {e : Expr} {te : TE} {pos : Pos} {n : Str} (he : PE X e te) (hb : attributeBase e n X.env (eval e X.env) = eval e X.env := by rfl) : PE X (.Attribute e n pos) (tXv X.K n te) := by
  refine ⟨fun pins s σ H Q I h => ?_⟩
  refine attr_of hb (thn (he.run pins s σ H _ I h) fun u s1 hh => ?_)
  obtain ⟨x, H1, I1, rx, a, C, dd, fs, v, ex, ea, T, hno, ed, l, q⟩ := hh
  subst ex
  obtain rfl : u = Value.ref a := rx
  obtain ⟨oe, vs, ha, hz, hd⟩ := exv_at I1.hok ea
  have hx : ObjOk X.prog X.w H1 s1.heap dd (.xd fs) := I1.hok dd _ ed
  obtain ⟨mA, hns, hr⟩ := hx
  obtain ⟨od, ho, hl⟩ := lookIn_ns hns
  obtain ⟨u, hu, ru⟩ := RelO.some_of (v := v) (o := mA n) (by rw [← l]; exact hr n)
  have J : PySem.W.InstAt s1.heap a oe C (some od) := ⟨ha, hz.1, by unfold PySem.W.notCls; rw [hd] <;> rfl, by rw [hz.2]; exact ho⟩
  exact HandSPX.exc_get I1.kIn J T.hg T.hk T.hs (PySem.W.findObj_own T.hd hno rfl (by rw [hl, hu])) (handed_of ru) ⟨v, H1, I1.tok _, ru, q⟩

/-! ### B.__init__(self, ..), B an own class over ValueError -/
theorem pe_ownInit {X : Cx} {B : Addr} {mc : Value} {x : Str} {e : Expr} {es : List Expr} {ta : TA} {p1 p2 pos : Pos} {pl : Sem Bool} (hg : Gl X x) (hm : X.mg x = some (.ref B)) (r : ClX.CRead X.K B mc)
    (k : PySem.W.findCls X.K (.ref B) mc "__init__" = some (.val (.builtin "ValueError.__init__"))) (ha : PA X (e :: es) ta)
    (hc : eval (.Call (.Attribute (.Name x p1) "__init__" p2) (e :: es) [] pos) X.env = (do
      let ov ← eval (.Name x p1) X.env
      standAt p2.atName
      let (f, first) ← holding [ov] (getMethod ov "__init__" pl)
      callWith pos f first (backTo pos (starEach (e :: es) X.env)) (backToKw pos (keywordEach [] X.env))) := by rfl)
    (he : starEach (e :: es) X.env = (false, eval e X.env) :: starEach es X.env := by rfl) (hpl : (backTo pos (starEach es X.env)).any (·.1) = false := by rfl) (hdb : (x == ("__debug__" : Str)) = false := by decide) :
    PE X (.Call (.Attribute (.Name x p1) "__init__" p2) (e :: es) [] pos) (tVeI X.K ta) := by
  refine ⟨fun pins s σ H Q I h => ?_⟩
  refine PySem.W.methodCall_KW (ld_glob I hg hm ?_ hdb) hc
  refine PySem.W.method_cls I.kIn r.ga (PySem.W.cls_value I.kIn r.rd k rfl ?_)
  show wpAny _ _ (callWith pos (Value.builtin "ValueError.__init__") [] (backTo pos (starEach (e :: es) X.env)) []) _ _ _
  refine PyProof.Rows.callWith_method1 (thn (ha.run pos pins _ σ H _ (I.tok _) h) fun us s1 ⟨vs, H1, I1, r1, a, C, ws, ev, hl, T, ea, q⟩ => ?_) he hpl
  subst ev
  cases r1 with
  | @cons _ u0 _ ur ra rw' =>
    obtain rfl : u0 = Value.ref a := ra
    have hlen : ur.length ≤ sizeLine := by
      rw [← Paired.length rw', sizeLine_eq]
      omega
    exact oinit_ok T I1 ea hlen fun s' J => ⟨.non, H1, J, rfl, q⟩

/-! ### products and quotients by plain bounds -/
def Big (i : Int) : Prop := -1000000000000000000000000000000000000000000 < i ∧ i < 1000000000000000000000000000000000000000000
theorem Big.abs {i : Int} (h : Big i) : i.natAbs < 2 ^ 140 := by
  obtain ⟨a, b⟩ := h
  have : (2 : Nat) ^ 140 = 1393796574908163946345982392040522594123776 := by decide
  rw [this]
  omega
def CMulB (i j : Int) : Prop := Big i ∧ Big j
def CDivB (_ j : Int) : Prop := 0 < j ∧ j < 1000000000000000000000000000000000000000000
theorem op_mulB {X : Cx} : OpR X (binaryOp .Mult) (rI CMulB fun i j => .int (i * j)) := by
  intro pins s σ H x y u v Q I r1 r2 h
  obtain ⟨i, j, e1, e2, hc, q⟩ := h
  exact op_mulW pins s σ H x y u v Q I r1 r2 ⟨i, j, e1, e2, wide_mul hc.1.abs hc.2.abs (by decide) (by decide) (by decide), q⟩
theorem op_fdivB {X : Cx} : OpR X (binaryOp .FloorDiv) (rI CDivB fun i j => .int (i / j)) := by
  intro pins s σ H x y u v Q I r1 r2 h
  obtain ⟨i, j, e1, e2, hc, q⟩ := h
  have hb : Big j := ⟨by have := hc.1; omega, hc.2⟩
  exact op_fdivW pins s σ H x y u v Q I r1 r2 ⟨i, j, e1, e2, wide_div hc.1 hb.abs (by decide) (by decide), q⟩
end Tw

/-! Short words: a def of the top, its promise, its call; readings. -/
namespace Tw
open PySem PySem.Spec PyProof.Rows L2

/-- a def of the text as the top has left it -/
def Top (K : PySem.W.Frag) (mg : Str → Option Value) (x : Str) (st : Stmt) (ps : List Str) : Prop :=
  ∃ (f : Addr) (fd : FuncData), Fun K x x st f fd ∧ mg x = some (.ref f) ∧ Binds K fd ps []
/-- a def that keeps its promise, ready to be called -/
def Lk (K : PySem.W.Frag) (f : Addr) (fd : FuncData) : Prop := ∃ (oc : Value) (od : Option Addr) (osl : Array (Option Value)), K.lookup f = some ⟨oc, od, .func fd, osl⟩
theorem Lk.eq {K : PySem.W.Frag} {f : Addr} {fd fe : FuncData} (a : Lk K f fd) (b : Lk K f fe) : fd = fe := by
  obtain ⟨oc, od, osl, e⟩ := a
  obtain ⟨oc', od', osl', e'⟩ := b
  rw [e] at e'
  cases e'
  rfl
theorem lk_of {K : PySem.W.Frag} {x q : Str} {st : Stmt} {f : Addr} {fd : FuncData} (F : Fun K x q st f fd) : Lk K f fd := by
  obtain ⟨oc, od, kV, doc, pm, an, cdv, ct, osl, _, lk, _⟩ := F.ex
  exact ⟨oc, od, osl, lk⟩
def Has (P : Program) (w : World) (K : PySem.W.Frag) (mg : Str → Option Value) (base : Heap) (CX : CXT) (k : Nat) (x : Str) (ps : List Str) (sp : Sp) : Prop :=
  ∃ (f : Addr) (fd : FuncData), FnOk P w K mg base CX k f fd ps sp ∧ mg x = some (.ref f) ∧ PySem.W.keepIn K (.ref f) = true ∧ Binds K fd ps [] ∧ Lk K f fd
theorem Has.mono {P : Program} {w : World} {K : PySem.W.Frag} {mg : Str → Option Value} {base : Heap} {CX : CXT} {j k : Nat} {x : Str} {ps : List Str} {sp : Sp} (h : Has P w K mg base CX j x ps sp) (l : j ≤ k) : Has P w K mg base CX k x ps sp := by
  obtain ⟨f, fd, F, g, kp, b, lk⟩ := h
  exact ⟨f, fd, F.mono l, g, kp, b, lk⟩
/-! promises by the number of arguments -/
def sp1 (p : V → Hp → VK → XK → Prop) : Sp := fun vs H Q E => ∃ a, vs = [a] ∧ p a H Q E
def sp2 (p : V → V → Hp → VK → XK → Prop) : Sp := fun vs H Q E => ∃ a b, vs = [a, b] ∧ p a b H Q E
def sp3 (p : V → V → V → Hp → VK → XK → Prop) : Sp := fun vs H Q E => ∃ a b c, vs = [a, b, c] ∧ p a b c H Q E
def sp4 (p : V → V → V → V → Hp → VK → XK → Prop) : Sp := fun vs H Q E => ∃ a b c d, vs = [a, b, c, d] ∧ p a b c d H Q E
section
variable {P : Program} {w : World} {K : PySem.W.Frag} {mg : Str → Option Value} {base : Heap} {x : Str} {st : Stmt} {N : List Str} {k : Nat}
theorem Top.ok {ps : List Str} {sp : Sp} (D : Top K mg x st ps) (S : FnScope N ps (defScope st)) (len : ∀ vs H Q E, sp vs H Q E → vs.length = ps.length)
    (hbody : ∀ (f : Addr) (cdv : Value) (A : Around) (outer : List Env) (s : Shared) (H : Hp) (vs : List V) (Q : VK) (E : XK), Room k (A.deeper (envOfC x (defScope st) s.heap.objs.size f cdv)) → sp vs H Q E →
      ∃ t, PSs (cxOf CX0 P w K mg base N x (defScope st) f cdv A outer s H E).nox (defBody st) t ∧ t { nx := fun _ H' => Q .non H', rt := Q } (start N vs) H) : Has P w K mg base CX0 (k + 1) x ps sp := by
  obtain ⟨f, fd, F, g, b⟩ := D
  exact ⟨f, fd, F.ok S len (fun cdv A outer s H vs Q E hr h => hbody f cdv A outer s H vs Q E hr h), g, F.kp, b, lk_of F⟩
theorem Top.okX {ps : List Str} {sp : Sp} (D : Top K mg x st ps) (S : FnScope N ps (defScope st)) (len : ∀ vs H Q E, sp vs H Q E → vs.length = ps.length)
    (hbody : ∀ (f : Addr) (cdv : Value) (A : Around) (outer : List Env) (s : Shared) (H : Hp) (vs : List V) (Q : VK) (E : XK), Room k (A.deeper (envOfC x (defScope st) s.heap.objs.size f cdv)) → sp vs H Q E →
      ∃ t, PSs (cxOf (L2.CX P w) P w K mg base N x (defScope st) f cdv A outer s H E) (defBody st) t ∧ t { nx := fun _ H' => Q .non H', rt := Q } (start N vs) H) : Has P w K mg base (L2.CX P w) (k + 1) x ps sp := by
  obtain ⟨f, fd, F, g, b⟩ := D
  exact ⟨f, fd, F.okX S len (fun cdv A outer s H vs Q E hr h => hbody f cdv A outer s H vs Q E hr h), g, F.kp, b, lk_of F⟩
theorem Top.ok1 {a : Str} {p : V → Hp → VK → XK → Prop} (D : Top K mg x st [a]) (S : FnScope N [a] (defScope st))
    (hbody : ∀ (f : Addr) (cdv : Value) (A : Around) (outer : List Env) (s : Shared) (H : Hp) (v1 : V) (Q : VK) (E : XK), Room k (A.deeper (envOfC x (defScope st) s.heap.objs.size f cdv)) → p v1 H Q E →
      ∃ t, PSs (cxOf CX0 P w K mg base N x (defScope st) f cdv A outer s H E).nox (defBody st) t ∧ t { nx := fun _ H' => Q .non H', rt := Q } (start N [v1]) H) : Has P w K mg base CX0 (k + 1) x [a] (sp1 p) :=
  D.ok S (fun vs H Q E h => by obtain ⟨_, rfl, _⟩ := h; rfl) (fun f cdv A outer s H vs Q E hr h => by obtain ⟨v1, rfl, h⟩ := h; exact hbody f cdv A outer s H v1 Q E hr h)
theorem Top.ok2 {a b : Str} {p : V → V → Hp → VK → XK → Prop} (D : Top K mg x st [a, b]) (S : FnScope N [a, b] (defScope st))
    (hbody : ∀ (f : Addr) (cdv : Value) (A : Around) (outer : List Env) (s : Shared) (H : Hp) (v1 v2 : V) (Q : VK) (E : XK), Room k (A.deeper (envOfC x (defScope st) s.heap.objs.size f cdv)) → p v1 v2 H Q E →
      ∃ t, PSs (cxOf CX0 P w K mg base N x (defScope st) f cdv A outer s H E).nox (defBody st) t ∧ t { nx := fun _ H' => Q .non H', rt := Q } (start N [v1, v2]) H) : Has P w K mg base CX0 (k + 1) x [a, b] (sp2 p) :=
  D.ok S (fun vs H Q E h => by obtain ⟨_, _, rfl, _⟩ := h; rfl) (fun f cdv A outer s H vs Q E hr h => by obtain ⟨v1, v2, rfl, h⟩ := h; exact hbody f cdv A outer s H v1 v2 Q E hr h)
theorem Top.ok3 {a b c : Str} {p : V → V → V → Hp → VK → XK → Prop} (D : Top K mg x st [a, b, c]) (S : FnScope N [a, b, c] (defScope st))
    (hbody : ∀ (f : Addr) (cdv : Value) (A : Around) (outer : List Env) (s : Shared) (H : Hp) (v1 v2 v3 : V) (Q : VK) (E : XK), Room k (A.deeper (envOfC x (defScope st) s.heap.objs.size f cdv)) → p v1 v2 v3 H Q E →
      ∃ t, PSs (cxOf CX0 P w K mg base N x (defScope st) f cdv A outer s H E).nox (defBody st) t ∧ t { nx := fun _ H' => Q .non H', rt := Q } (start N [v1, v2, v3]) H) : Has P w K mg base CX0 (k + 1) x [a, b, c] (sp3 p) :=
  D.ok S (fun vs H Q E h => by obtain ⟨_, _, _, rfl, _⟩ := h; rfl) (fun f cdv A outer s H vs Q E hr h => by obtain ⟨v1, v2, v3, rfl, h⟩ := h; exact hbody f cdv A outer s H v1 v2 v3 Q E hr h)
theorem Top.ok1X {a : Str} {p : V → Hp → VK → XK → Prop} (D : Top K mg x st [a]) (S : FnScope N [a] (defScope st))
    (hbody : ∀ (f : Addr) (cdv : Value) (A : Around) (outer : List Env) (s : Shared) (H : Hp) (v1 : V) (Q : VK) (E : XK), Room k (A.deeper (envOfC x (defScope st) s.heap.objs.size f cdv)) → p v1 H Q E →
      ∃ t, PSs (cxOf (L2.CX P w) P w K mg base N x (defScope st) f cdv A outer s H E) (defBody st) t ∧ t { nx := fun _ H' => Q .non H', rt := Q } (start N [v1]) H) : Has P w K mg base (L2.CX P w) (k + 1) x [a] (sp1 p) :=
  D.okX S (fun vs H Q E h => by obtain ⟨_, rfl, _⟩ := h; rfl) (fun f cdv A outer s H vs Q E hr h => by obtain ⟨v1, rfl, h⟩ := h; exact hbody f cdv A outer s H v1 Q E hr h)
theorem Top.ok2X {a b : Str} {p : V → V → Hp → VK → XK → Prop} (D : Top K mg x st [a, b]) (S : FnScope N [a, b] (defScope st))
    (hbody : ∀ (f : Addr) (cdv : Value) (A : Around) (outer : List Env) (s : Shared) (H : Hp) (v1 v2 : V) (Q : VK) (E : XK), Room k (A.deeper (envOfC x (defScope st) s.heap.objs.size f cdv)) → p v1 v2 H Q E →
      ∃ t, PSs (cxOf (L2.CX P w) P w K mg base N x (defScope st) f cdv A outer s H E) (defBody st) t ∧ t { nx := fun _ H' => Q .non H', rt := Q } (start N [v1, v2]) H) : Has P w K mg base (L2.CX P w) (k + 1) x [a, b] (sp2 p) :=
  D.okX S (fun vs H Q E h => by obtain ⟨_, _, rfl, _⟩ := h; rfl) (fun f cdv A outer s H vs Q E hr h => by obtain ⟨v1, v2, rfl, h⟩ := h; exact hbody f cdv A outer s H v1 v2 Q E hr h)
theorem Top.ok3X {a b c : Str} {p : V → V → V → Hp → VK → XK → Prop} (D : Top K mg x st [a, b, c]) (S : FnScope N [a, b, c] (defScope st))
    (hbody : ∀ (f : Addr) (cdv : Value) (A : Around) (outer : List Env) (s : Shared) (H : Hp) (v1 v2 v3 : V) (Q : VK) (E : XK), Room k (A.deeper (envOfC x (defScope st) s.heap.objs.size f cdv)) → p v1 v2 v3 H Q E →
      ∃ t, PSs (cxOf (L2.CX P w) P w K mg base N x (defScope st) f cdv A outer s H E) (defBody st) t ∧ t { nx := fun _ H' => Q .non H', rt := Q } (start N [v1, v2, v3]) H) : Has P w K mg base (L2.CX P w) (k + 1) x [a, b, c] (sp3 p) :=
  D.okX S (fun vs H Q E h => by obtain ⟨_, _, _, rfl, _⟩ := h; rfl) (fun f cdv A outer s H vs Q E hr h => by obtain ⟨v1, v2, v3, rfl, h⟩ := h; exact hbody f cdv A outer s H v1 v2 v3 Q E hr h)
end
section
variable {X : Cx} {CX : CXT} {k : Nat} {ps : List Str} {sp : Sp} {E : XK} {x : Str} {p pos : Pos} {e : Expr} {es : List Expr} {t : TA}
/-- f(e, ..): what may be raised is taken by E -/
theorem pe_own (h : Has X.prog X.w X.K X.mg X.base CX k x ps sp) (hr : Room k X.A) (hx : Passes CX X E) (ha : PA X (e :: es) t) (hg : Gl X x := by rfl)
    (hdb : (x == ("__debug__" : Str)) = false := by decide) (he : starEach (e :: es) X.env = (false, eval e X.env) :: starEach es X.env := by rfl) (hpl : (backTo pos (starEach es X.env)).any (·.1) = false := by rfl) :
    PE X (.Call (.Name x p) (e :: es) [] pos) (tCall sp [] E t) := by
  obtain ⟨f, fd, F, g, kp, b, _⟩ := h
  exact pe_call F hr hg g kp b .nil hx ha hdb he hpl
theorem pe_ownS {E : L2.St → XK} (h : Has X.prog X.w X.K X.mg X.base CX k x ps sp) (hr : Room k X.A) (hx : ∀ σ, PassesAt CX X σ (E σ)) (ha : PA X (e :: es) t) (hg : Gl X x := by rfl)
    (hdb : (x == ("__debug__" : Str)) = false := by decide) (he : starEach (e :: es) X.env = (false, eval e X.env) :: starEach es X.env := by rfl) (hpl : (backTo pos (starEach es X.env)).any (·.1) = false := by rfl) :
    PE X (.Call (.Name x p) (e :: es) [] pos) (tCallS sp E t) := by
  obtain ⟨f, fd, F, g, kp, b, _⟩ := h
  exact pe_callS F hr hg g kp b hx ha hdb he hpl
end
/-! ### tests -/
theorem ifD {p A B : Prop} [Decidable p] (h1 : p → A) (h2 : ¬ p → B) : if decide p = true then A else B := by
  by_cases h : p
  · rw [if_pos (decide_eq_true h)]; exact h1 h
  · rw [if_neg (by simp [h])]; exact h2 h
theorem ifN {p A B : Prop} [Decidable p] (h1 : ¬ p → A) (h2 : p → B) : if (!decide p) = true then A else B := by
  by_cases h : p
  · rw [if_neg (by simp [h])]; exact h2 h
  · rw [if_pos (by simp [h])]; exact h1 h
theorem ifI {i j : Int} {A B : Prop} (h1 : i = j → A) (h2 : i ≠ j → B) : if decide (V.int i = V.int j) = true then A else B := ifD (fun e => h1 (V.int.inj e)) (fun e => h2 fun z => e (by rw [z]))
theorem ifNI {i j : Int} {A B : Prop} (h1 : i ≠ j → A) (h2 : i = j → B) : if (!decide (V.int i = V.int j)) = true then A else B := ifN (fun e => h1 fun z => e (by rw [z])) (fun e => h2 (V.int.inj e))
theorem ifB {c : Bool} {A B : Prop} (h1 : c = true → A) (h2 : c = false → B) : if c = true then A else B := by
  cases c with
  | true => exact iteT (h1 rfl)
  | false => exact iteF (h2 rfl)
theorem ifT {c : Bool} {A B : Prop} (e : c = true) (h : A) : if c = true then A else B := by rw [if_pos e]; exact h
theorem ifF {c : Bool} {A B : Prop} (e : c = false) (h : B) : if c = true then A else B := by rw [e]; exact iteF h
/-! ### heaps -/
/-- the list at d begins with the object at c -/
def At (H : Hp) (d c : Addr) : Prop := ∃ r : List V, H d = some (.lst (.ref c :: r))
/-- all but what stands at d is as it was; a list at d keeps its first item -/
structure But (d : Addr) (H H' : Hp) : Prop where
  keep : ∀ b o, b ≠ d → H b = some o → H' b = some o
  hd : ∀ c, At H d c → At H' d c
instance {d : Addr} {H H' : Hp} : CoeFun (But d H H') (fun _ => ∀ b o, b ≠ d → H b = some o → H' b = some o) := ⟨But.keep⟩
theorem But.refl (d : Addr) (H : Hp) : But d H H := ⟨fun _ _ _ h => h, fun _ h => h⟩
theorem But.trans {d : Addr} {H H1 H2 : Hp} (a : But d H H1) (b : But d H1 H2) : But d H H2 := ⟨fun c o n h => b c o n (a c o n h), fun c h => b.hd c (a.hd c h)⟩
theorem _root_.L2.Same.but {d : Addr} {H H1 : Hp} (a : Same H H1) : But d H H1 := ⟨fun c o _ h => a c o h, fun c h => by
  obtain ⟨r, e⟩ := h
  exact ⟨r, a _ _ e⟩⟩
theorem same_new {H : Hp} {p : Addr} {o : HO} (h : H p = none) : Same H (upd H p o) := fun b x e => by
  rw [upd_ne (ne_of_none e h)]
  exact e
theorem same_mut {H H' : Hp} {p : Addr} {o : HO} (e : Same H H') (h : H p = none) : Same H (upd H' p o) := fun a u ha => by
  rw [upd_ne (ne_of_none ha h)]
  exact e a u ha
theorem but_mut {H H' : Hp} {d : Addr} {o : HO} (e : But d H H') (ho : ∀ c, At H' d c → ∃ r : List V, o = .lst (.ref c :: r)) : But d H (upd H' d o) := ⟨fun a u n ha => by
  rw [upd_ne n]
  exact e a u n ha, fun c h => by
  obtain ⟨r, z⟩ := ho c (e.hd c h)
  exact ⟨r, by rw [upd_same, z]⟩⟩
theorem but_mut2 {H H' : Hp} {d p : Addr} {o : HO} (e : But d H H') (h : H p = none) : But d H (upd H' p o) := ⟨fun a u n ha => by
  rw [upd_ne (ne_of_none ha h)]
  exact e a u n ha, fun c k => by
  obtain ⟨r, z⟩ := e.hd c k
  obtain ⟨_, y⟩ := k
  exact ⟨r, by rw [upd_ne (ne_of_none y h)]; exact z⟩⟩
theorem But.free {d : Addr} {H H' : Hp} (e : But d H H') {l : Addr} (n : l ≠ d) (h : H' l = none) : H l = none := by
  cases q : H l with
  | none => rfl
  | some o =>
    rw [e l o n q] at h
    cases h
theorem _root_.L2.Same.tup {K : PySem.W.Frag} {H H' : Hp} {a : Addr} {xs : List V} (e : Same H H') (h : SqT K H a xs) : SqT K H' a xs := by
  rcases h with (h | ⟨o, h⟩) | h
  · exact .inl (.inl (e _ _ h))
  · exact .inl (.inr ⟨o, e _ _ h⟩)
  · exact .inr h
theorem sz {n : Nat} (h : n ≤ 100000) : n ≤ sizeLine := Nat.le_trans h (by decide)
theorem szl {n : Nat} (h : n < 100000) : n < sizeLine := Nat.lt_of_lt_of_le h (by decide)
theorem szM {n : Nat} (h : n ≤ 1000000) : n < sizeLine := Nat.lt_of_le_of_lt h (by decide)
/-! ### arithmetic -/
theorem mul_bd {a b A B : Int} (ha : 0 ≤ a) (ha' : a ≤ A) (hb : 0 ≤ b) (hb' : b ≤ B) : 0 ≤ a * b ∧ a * b ≤ A * B :=
  ⟨Int.mul_nonneg ha hb, Int.mul_le_mul ha' hb' hb (Int.le_trans ha ha')⟩
theorem mod_bd (a : Int) {b : Int} (h : 0 < b) : 0 ≤ a % b ∧ a % b < b := ⟨Int.emod_nonneg a (by omega), Int.emod_lt_of_pos a h⟩
/-! ### xs.count(y), flat items -/
def rCntA (K : PySem.W.Frag) : V → List V → Hp → VK → Prop := fun x xs H Q => ∃ (p : Addr) (ys : List V) (y : V), x = .ref p ∧ xs = [y] ∧ SqL K H p ys ∧ flatV y = true ∧ ys.all flatV = true ∧ Q (.int (ys.countP (fun z => eqV z y) : Nat)) H
theorem countP_eqU {x : V} : ∀ {xs : List V} {us : List Value}, Vals xs us → xs.all flatV = true → us.countP (eqU x) = xs.countP fun y => eqV y x
  | _, _, .nil, _ => rfl
  | y :: xs, u :: us, .cons r t, f => by
    rw [List.all_cons, Bool.and_eq_true] at f
    rw [List.countP_cons, List.countP_cons, eqU_of r f.1, countP_eqU t f.2]
theorem mt_countA {X : Cx} : MtR X "list.count" (rCntA X.K) := by
  intro pins s σ H x xs v us Q I rx rxs h
  obtain ⟨p, ys, y, rfl, rfl, hs, fy, fs, q⟩ := h
  cases rx
  obtain ⟨u, rfl, ru⟩ := rxs.one
  obtain ⟨its, rv, ⟨⟨cls, dd, data, sl⟩, n, ho, hc, hdn, hd⟩, hlen⟩ := I.list hs
  simp only at hc hd
  subst hc hd
  refine call_meets PySem.F.slot_list_count ⟨_, ho, rfl⟩ PySem.F.entry_list_count (PySem.F.args_list_count_2 _ _)
    (SeqAt.list_countAt p its.toArray n dd sl u (eqU y)) ⟨ho, fun z hz => mem_eqAt ru fy rv fs z (by simpa using hz), ?_⟩
  have ec : its.toArray.toList.countP (eqU y) = ys.countP fun z => eqV z y := countP_eqU rv fs
  refine ⟨.int (ys.countP (fun z => eqV z y) : Nat), H, I.tok _, ⟨s.toks, ?_⟩, q⟩
  show Value.int ((its.toArray.toList.countP (eqU y) : Nat) : Int) s.toks = _
  rw [ec]
/-- while True -/
theorem pt_true {X : Cx} {j pos} : PT X (.Constant (.bool true) j pos) (fun _ H Q => Q true H) := by
  have h : PT X (.Constant (.bool true) j pos) (tB (tC (.bl true))) := pt_val pe_bl
  exact ⟨fun pins s σ H Q I q => h.run pins s σ H Q I ⟨true, rfl, q⟩⟩
/-- an item of a list of ints -/
theorem at_ints {ns : List Int} {v : Int} (h0 : 0 ≤ v) (h1 : v < ns.length) : ∃ x, x ∈ ns ∧ atI (ns.map V.int) v = some (.int x) := by
  obtain ⟨j, rfl⟩ := Int.eq_ofNat_of_zero_le h0
  have jl : j < ns.length := by omega
  refine ⟨ns[j], List.getElem_mem jl, atI_nat ?_⟩
  rw [List.getElem?_map, List.getElem?_eq_getElem jl]
  rfl
end Tw

/-! The draws: what each of the common defs promises. -/
namespace Tw
open PySem PySem.Spec PyProof.Rows L2

def pMix : V → V → Hp → VK → XK → Prop := fun a b H Q _ => ∃ c k : Int, a = .int c ∧ b = .int k ∧ 0 ≤ k ∧ k < 1000000000 ∧ ∀ v : Int, 0 ≤ v → Q (.int v) H
/-- a deck: its cells, where it stands, what is left of a great cell, how many were mixed, the sum -/
def Deck (H : Hp) (d : Addr) (n : Nat) : Prop := ∃ (c : Addr) (xs : List Int) (i r k t : Int), H d = some (.lst [.ref c, .int i, .int r, .int k, .int t]) ∧ H c = some (.lst (xs.map V.int)) ∧ c ≠ d ∧ xs.length ≤ 63 ∧ 0 ≤ i ∧ i ≤ (xs.length : Int) ∧ 0 ≤ r ∧ 0 ≤ k ∧ k ≤ (n : Int)
theorem Deck.mono {H : Hp} {d : Addr} {n m : Nat} (h : Deck H d n) (l : n ≤ m) : Deck H d m := by
  obtain ⟨c, xs, i, r, k, t, a1, a2, a3, a4, a5, a6, a7, a8, a9⟩ := h
  exact ⟨c, xs, i, r, k, t, a1, a2, a3, a4, a5, a6, a7, a8, by omega⟩
theorem Deck.same {H H' : Hp} {d : Addr} {n : Nat} (h : Deck H d n) (s : Same H H') : Deck H' d n := by
  obtain ⟨c, xs, i, r, k, t, a1, a2, a3⟩ := h
  exact ⟨c, xs, i, r, k, t, s _ _ a1, s _ _ a2, a3⟩
theorem Deck.ne {H : Hp} {d p : Addr} {n : Nat} (h : Deck H d n) (e : H p = none) : p ≠ d := by
  obtain ⟨c, xs, i, r, k, t, a1, _⟩ := h
  intro z
  rw [z, a1] at e
  cases e
theorem Deck.ne_tup {H : Hp} {d p : Addr} {n : Nat} {xs : List V} (h : Deck H d n) (e : H p = some (.tup xs)) : p ≠ d := by
  obtain ⟨c, xs, i, r, k, t, a1, _⟩ := h
  intro z
  rw [z, a1] at e
  cases e
theorem Deck.fresh {H H' : Hp} {d p : Addr} {n m : Nat} (h : Deck H d n) (h' : Deck H' d m) (b : But d H H') (e : H' p = none) : H p = none := b.free (h'.ne e) e
/-- a list that is none of the deck's -/
def Out (H : Hp) (d L : Addr) : Prop := L ≠ d ∧ ∀ c, At H d c → c ≠ L
theorem Deck.out {H : Hp} {d L : Addr} {n : Nat} {o : HO} (D : Deck H d n) (e : H L = none) : Out (upd H L o) d L := by
  obtain ⟨c, xs, i, r, k, t, a1, a2, a3⟩ := D
  have n1 : L ≠ d := fun z => by rw [z, a1] at e; cases e
  have n2 : c ≠ L := fun z => by rw [← z, a2] at e; cases e
  refine ⟨n1, fun c' h => ?_⟩
  obtain ⟨r', y⟩ := h
  rw [upd_ne (Ne.symm n1), a1] at y
  cases y
  exact n2
theorem Out.but {H H' : Hp} {d L : Addr} {n m : Nat} (h : Out H d L) (D : Deck H d n) (D' : Deck H' d m) (b : But d H H') : Out H' d L := by
  obtain ⟨c, xs, i, r, k, t, a1, a2, a3⟩ := D
  obtain ⟨r1, e1⟩ := b.hd c ⟨_, a1⟩
  refine ⟨h.1, fun c' hc => ?_⟩
  obtain ⟨r2, e2⟩ := hc
  rw [e1] at e2
  cases e2
  exact h.2 _ ⟨_, a1⟩
theorem Out.mut {H : Hp} {d L : Addr} {o : HO} (h : Out H d L) : Out (upd H L o) d L := ⟨h.1, fun c hc => h.2 c (by
  obtain ⟨r, e⟩ := hc
  rw [upd_ne (Ne.symm h.1)] at e
  exact ⟨r, e⟩)⟩
theorem Deck.mut {H : Hp} {d L : Addr} {n : Nat} {o : HO} (D : Deck H d n) (h : Out H d L) : Deck (upd H L o) d n := by
  obtain ⟨c, xs, i, r, k, t, a1, a2, a3⟩ := D
  exact ⟨c, xs, i, r, k, t, by rw [upd_ne (Ne.symm h.1)]; exact a1, by rw [upd_ne (h.2 c ⟨_, a1⟩)]; exact a2, a3⟩
def pDeck (K : PySem.W.Frag) : V → Hp → VK → XK → Prop := fun a H Q _ => ∃ (s : Addr) (xs : List Int), a = .ref s ∧ SqL K H s (xs.map V.int) ∧ ∀ H' d, Same H H' → H d = none → Deck H' d 0 → Q (.ref d) H'
/-- a draw below m -/
def pNext (c : Nat) : V → V → Hp → VK → XK → Prop := fun a b H Q _ => ∃ (d : Addr) (n : Nat) (m : Int), a = .ref d ∧ b = .int m ∧ 0 < m ∧ m < 1000000000000000000000000000000000000000000 ∧ Deck H d n ∧ n + c ≤ 100000000 ∧
  ∀ (H' : Hp) (v : Int), But d H H' → Deck H' d (n + c) → 0 ≤ v → v < m → Q (.int v) H'
/-- a bound -/
def pBound : V → V → Hp → VK → XK → Prop := fun a b H Q _ => ∃ (d : Addr) (n : Nat) (m : Int), a = .ref d ∧ b = .int m ∧ 100 ≤ m ∧ m ≤ 1000000000000 ∧ Deck H d n ∧ n < 90000000 ∧
  ∀ (H' : Hp) (v : Int), But d H H' → Deck H' d (n + 50) → 1 ≤ v → v ≤ m → Q (.int v) H'
/-- a rule (times, plus, bound), read at r -/
structure Rule (t p b : Int) : Prop where
  b1 : 1 ≤ b
  b2 : b ≤ 1000000000000
  t0 : 0 ≤ t
  t1 : t < b
  p0 : 0 ≤ p
  p1 : p < b
def pRule : V → V → Hp → VK → XK → Prop := fun a b H Q _ => ∃ (d : Addr) (n : Nat) (m : Int), a = .ref d ∧ b = .int m ∧ 100 ≤ m ∧ m ≤ 1000000000000 ∧ Deck H d n ∧ n < 80000000 ∧
  ∀ (H' : Hp) (r : Addr) (t p b : Int), But d H H' → Deck H' d (n + 60) → H r = none → H' r = some (.tup [.int t, .int p, .int b]) → Rule t p b → b ≤ m → Q (.ref r) H'
theorem cut_take (xs : List V) (n : Nat) : cutV xs none (some (n : Int)) = xs.take n := by
  unfold cutV
  rw [HT.sIx_none, HT.sIx_nat]
  show List.take (min n xs.length - 0) (List.drop 0 xs) = _
  rw [List.drop_zero, Nat.sub_zero]
  by_cases h : n ≤ xs.length
  · rw [Nat.min_eq_left h]
  · rw [Nat.min_eq_right (by omega), List.take_of_length_le (Nat.le_refl _), List.take_of_length_le (by omega)]
/-- the classes of the refusals as the top has left them -/
structure Err (K : PySem.W.Frag) (mg : Str → Option Value) (CR CA CB CF CN CU : Addr) : Prop where
  gR : mg "RowError" = some (.ref CR)
  gA : mg "NoAsk" = some (.ref CA)
  gB : mg "NoBack" = some (.ref CB)
  gF : mg "NoFit" = some (.ref CF)
  gN : mg "NoNumber" = some (.ref CN)
  gU : mg "NoRule" = some (.ref CU)
/-- an error's class against all: which of the five it is -/
structure Kit (K : PySem.W.Frag) (C CR CA CB CF CN CU : Addr) (a b f n u : Bool) : Prop where
  xc : XcC K C
  r : PySem.W.kitOne K (.ref C) (.ref CR) = some true
  v : PySem.W.kitOne K (.ref C) (.type "ValueError") = some true
  a : PySem.W.kitOne K (.ref C) (.ref CA) = some a
  b : PySem.W.kitOne K (.ref C) (.ref CB) = some b
  f : PySem.W.kitOne K (.ref C) (.ref CF) = some f
  n : PySem.W.kitOne K (.ref C) (.ref CN) = some n
  u : PySem.W.kitOne K (.ref C) (.ref CU) = some u
/-- a number that is none: kept by the error -/
def pKindN (CN : Addr) : V → Hp → VK → XK → Prop := fun a H Q _ => ∃ (e dd : Addr) (v : V), a = .ref e ∧ H e = some (exv e (.ref CN) (some dd)) ∧ H dd = some (.xd [("number", v)]) ∧
  ∀ H' p, Same H H' → H p = none → H' p = some (.tup [.str "number", v]) → Q (.ref p) H'
/-- a number that is none of a bound's -/
def pWrong : V → V → Hp → VK → XK → Prop := fun a b H Q _ => ∃ (d : Addr) (n : Nat) (m : Int), a = .ref d ∧ b = .int m ∧ 0 < m ∧ m ≤ 1000000000000 ∧ Deck H d n ∧ n + 4 ≤ 100000000 ∧
  ∀ (H' : Hp) (v : Int), But d H H' → Deck H' d (n + 4) → (v < 0 ∨ m ≤ v) → Q (.int v) H'
end Tw

/-! The program's steps and rounds: the mathematics of a walk, and the promises. -/
namespace Tw
open PySem PySem.Spec PyProof.Rows L2

/-! ### walks -/
def stp (t p m x : Int) : Int := (t * x + p) % m
theorem stp_rng {t p m : Int} (h : 0 < m) (x : Int) : 0 ≤ stp t p m x ∧ stp t p m x < m := mod_bd _ h
def wk (f : Int → Int) : Nat → List Int → Int → List Int × Int
  | 0, ws, x => (ws, x)
  | k + 1, ws, x => if x ∈ ws then (ws, x) else wk f k (ws ++ [x]) (f x)
theorem wk_in {f : Int → Int} {ws : List Int} {x : Int} (h : x ∈ ws) : ∀ k, wk f k ws x = (ws, x)
  | 0 => rfl
  | k + 1 => by unfold wk; rw [if_pos h]
theorem wk_out {f : Int → Int} {ws : List Int} {x : Int} (h : x ∉ ws) (k : Nat) : wk f (k + 1) ws x = wk f k (ws ++ [x]) (f x) := by
  conv => lhs; unfold wk
  rw [if_neg h]
theorem nat_len : ∀ (n : Nat) (l : List Nat), l.Nodup → (∀ x ∈ l, x < n) → l.length ≤ n
  | 0, l, _, h => by
    cases l with
    | nil => exact Nat.le_refl _
    | cons a r => exact absurd (h a List.mem_cons_self) (Nat.not_lt_zero _)
  | n + 1, l, nd, h => by
    by_cases hn : n ∈ l
    · have ih := nat_len n (l.erase n) (nd.erase n) (fun x hx => by
        obtain ⟨h1, h2⟩ := nd.mem_erase_iff.mp hx
        have := h x h2
        omega)
      rw [List.length_erase_of_mem hn] at ih
      omega
    · have ih := nat_len n l nd (fun x hx => by
        have := h x hx
        have : x ≠ n := fun e => hn (e ▸ hx)
        omega)
      omega
def Rng (m : Int) (ws : List Int) : Prop := ∀ x ∈ ws, 0 ≤ x ∧ x < m
theorem int_len {m : Int} {ws : List Int} (nd : ws.Nodup) (h : Rng m ws) : ws.length ≤ m.toNat := by
  have h1 : (ws.map Int.toNat).Nodup := by
    rw [List.nodup_iff_pairwise_ne] at nd ⊢
    rw [List.pairwise_map]
    refine List.Pairwise.imp_of_mem (fun {a b} ha hb hne => ?_) nd
    have := h a ha
    have := h b hb
    omega
  have := nat_len m.toNat (ws.map Int.toNat) h1 (fun x hx => by
    obtain ⟨y, hy, rfl⟩ := List.mem_map.mp hx
    have := h y hy
    omega)
  rw [List.length_map] at this
  exact this
theorem nodup_snoc {ws : List Int} {x : Int} (nd : ws.Nodup) (h : x ∉ ws) : (ws ++ [x]).Nodup := by
  rw [List.nodup_append]
  refine ⟨nd, by simp, fun a ha b hb => ?_⟩
  rw [List.mem_singleton] at hb
  subst hb
  exact fun e => h (e ▸ ha)
theorem rng_snoc {m : Int} {ws : List Int} {x : Int} (h : Rng m ws) (hx : 0 ≤ x ∧ x < m) : Rng m (ws ++ [x]) := fun y hy => by
  rcases List.mem_append.mp hy with hy | hy
  · exact h y hy
  · rw [List.mem_singleton.mp hy]; exact hx
theorem wk_good {t p m : Int} (m0 : 0 < m) : ∀ (k : Nat) (ws : List Int) (x : Int), ws.Nodup → Rng m ws → 0 ≤ x ∧ x < m → m.toNat + 1 ≤ k + ws.length →
    (wk (stp t p m) k ws x).1.Nodup ∧ Rng m (wk (stp t p m) k ws x).1 ∧ (wk (stp t p m) k ws x).2 ∈ (wk (stp t p m) k ws x).1
  | 0, ws, x, nd, rg, hx, hk => by
    have := int_len nd rg
    omega
  | k + 1, ws, x, nd, rg, hx, hk => by
    by_cases h : x ∈ ws
    · rw [wk_in h]
      exact ⟨nd, rg, h⟩
    · rw [wk_out h]
      exact wk_good m0 k (ws ++ [x]) (stp t p m x) (nodup_snoc nd h) (rng_snoc rg hx) (stp_rng m0 x) (by rw [List.length_append]; show m.toNat + 1 ≤ k + (ws.length + 1); omega)
/-! ### a dict of places -/
def enumD : Nat → List Int → List (Key × V)
  | _, [] => []
  | i, w :: ws => (Sum.inl w, V.int (i : Int)) :: enumD (i + 1) ws
theorem enumD_len : ∀ (i : Nat) (ws : List Int), (enumD i ws).length = ws.length
  | _, [] => rfl
  | i, w :: ws => by show (enumD (i + 1) ws).length + 1 = ws.length + 1; rw [enumD_len]
theorem enumD_snoc : ∀ (i : Nat) (ws : List Int) (x : Int), enumD i (ws ++ [x]) = enumD i ws ++ [(Sum.inl x, V.int ((i + ws.length : Nat) : Int))]
  | i, [], x => rfl
  | i, w :: ws, x => by
    show (Sum.inl w, V.int (i : Int)) :: enumD (i + 1) (ws ++ [x]) = (Sum.inl w, V.int (i : Int)) :: enumD (i + 1) ws ++ [(Sum.inl x, V.int ((i + (ws.length + 1) : Nat) : Int))]
    rw [enumD_snoc, show i + 1 + ws.length = i + (ws.length + 1) by omega]
    rfl
theorem enumD_none : ∀ (i : Nat) {ws : List Int} {x : Int}, x ∉ ws → valV (enumD i ws) (Sum.inl x) = none
  | _, [], _, _ => rfl
  | i, w :: ws, x, h => by
    show valV ((Sum.inl w, V.int (i : Int)) :: enumD (i + 1) ws) (Sum.inl x) = none
    rw [valV_neg (fun e => h (by rw [← Sum.inl.inj e]; exact List.mem_cons_self))]
    exact enumD_none (i + 1) (fun hm => h (List.mem_cons_of_mem _ hm))
theorem enumD_some : ∀ (i : Nat) {ws : List Int} {x : Int}, x ∈ ws → valV (enumD i ws) (Sum.inl x) = some (V.int ((i + ws.idxOf x : Nat) : Int))
  | i, w :: ws, x, h => by
    show valV ((Sum.inl w, V.int (i : Int)) :: enumD (i + 1) ws) (Sum.inl x) = _
    by_cases e : w = x
    · subst e
      rw [valV_pos rfl, List.idxOf_cons_self]
      rfl
    · have e2 : (w :: ws).idxOf x = ws.idxOf x + 1 := by
        rw [List.idxOf_cons]
        simp [beq_eq_false_iff_ne.mpr e]
      rw [valV_neg (fun z => e (Sum.inl.inj z)), e2, enumD_some (i + 1) ((List.mem_cons.mp h).resolve_left (fun z => e z.symm))]
      congr 2
      omega
theorem upd_self {H : Hp} {a : Addr} {o : HO} (h : H a = some o) : upd H a o = H := by
  funext b
  by_cases e : b = a
  · rw [e, upd_same, h]
  · rw [upd_ne e]
theorem sqT_upd {K : PySem.W.Frag} {H : Hp} {r a : Addr} {xs : List V} {o u : HO} (h : SqT K H r xs) (ha : H a = some u) (n1 : ∀ ys, u ≠ .tup ys) (n2 : ∀ ob v, u ≠ .frz ob v) : SqT K (upd H a o) r xs := by
  rcases h with (h | ⟨ob, h⟩) | h
  · refine .inl (.inl ?_)
    rw [upd_ne (fun e => n1 xs (by rw [e, ha] at h; exact Option.some.inj h))]
    exact h
  · refine .inl (.inr ⟨ob, ?_⟩)
    rw [upd_ne (fun e => n2 ob _ (by rw [e, ha] at h; exact Option.some.inj h))]
    exact h
  · exact .inr h
/-! ### refusals -/
/-- the error behind a number that is none: its own dict d, new -/
def Bad (CN : Addr) (n : Int) (H : Hp) (E : XK) : Prop := ∀ d, H d = none → E (.ref CN) (some d) (upd H d (.xd [("number", .int n)]))
theorem made_eq {H : Hp} {a d : Addr} {C : Addr} {fs : List (Str × V)} (na : H a = none) (nd : d ≠ a) :
    upd (L2.del (upd (upd (upd H a (exo a C none)) d (exd d fs)) a (exo a C (some d))) a) d (.xd fs) = upd H d (.xd fs) := by
  funext b
  by_cases hb : b = d
  · rw [hb, upd_same, upd_same]
  · rw [upd_ne hb, upd_ne hb]
    by_cases ha : b = a
    · rw [ha, del_same, na]
    · rw [del_ne ha, upd_ne ha, upd_ne hb, upd_ne ha]
def spInit (K : PySem.W.Frag) : Sp := sp2 fun x v H Q _ => ∃ (a C : Addr), x = .ref a ∧ OexC K C ∧ PySem.W.findIn K (.ref C) "number" = some none ∧ H a = some (exo a C none) ∧ ∀ d, H d = none → d ≠ a → Q .non (upd (upd H d (exd d [("number", v)])) a (exo a C (some d)))
def pWhole : V → Hp → VK → XK → Prop := fun a H Q _ => ∃ n : Int, a = .int n ∧ Q (.bl true) H
def pIsNum : V → V → Hp → VK → XK → Prop := fun a b H Q _ => ∃ n m : Int, a = .int n ∧ b = .int m ∧ Q (.bl (decide (0 ≤ n ∧ n < m))) H
def pCheck (CN : Addr) : V → V → Hp → VK → XK → Prop := fun a b H Q E => ∃ n m : Int, a = .int n ∧ b = .int m ∧ (0 ≤ n → n < m → Q .non H) ∧ (¬ (0 ≤ n ∧ n < m) → Bad CN n H E)
def pNextOf (K : PySem.W.Frag) (CN : Addr) : V → V → Hp → VK → XK → Prop := fun a b H Q E => ∃ (r : Addr) (t p m n : Int), a = .ref r ∧ b = .int n ∧ SqT K H r [.int t, .int p, .int m] ∧ Rule t p m ∧
  (0 ≤ n → n < m → Q (.int (stp t p m n)) H) ∧ (¬ (0 ≤ n ∧ n < m) → Bad CN n H E)
def pWalk (K : PySem.W.Frag) : V → V → V → Hp → VK → XK → Prop := fun a b c H Q _ => ∃ (r : Addr) (t p m s : Int) (l : Addr) (ws : List Int), a = .ref r ∧ b = .int s ∧ c = .ref l ∧ SqT K H r [.int t, .int p, .int m] ∧ Rule t p m ∧ m ≤ 1000000 ∧ 0 ≤ s ∧ s < m ∧
  H l = some (.dK (enumD 0 ws)) ∧ ws.Nodup ∧ Rng m ws ∧ Q (.int (wk (stp t p m) (m.toNat + 1 - ws.length) ws s).2) (upd H l (.dK (enumD 0 (wk (stp t p m) (m.toNat + 1 - ws.length) ws s).1)))
/-- tail and length -/
def rndW (t p m s : Int) : List Int × Int := wk (stp t p m) (m.toNat + 1) [] s
def rndT (t p m s : Int) : Int := (((rndW t p m s).1.idxOf (rndW t p m s).2 : Nat) : Int)
def rndL (t p m s : Int) : Int := ((rndW t p m s).1.length : Int) - rndT t p m s
def pRound (K : PySem.W.Frag) (CN : Addr) : V → V → Hp → VK → XK → Prop := fun a b H Q E => ∃ (r : Addr) (t p m s : Int), a = .ref r ∧ b = .int s ∧ SqT K H r [.int t, .int p, .int m] ∧ Rule t p m ∧ m ≤ 1000000 ∧
  (0 ≤ s → s < m → ∀ H' q, Same H H' → H q = none → H' q = some (.tup [.int (rndT t p m s), .int (rndL t p m s)]) → Q (.ref q) H') ∧ (¬ (0 ≤ s ∧ s < m) → Bad CN s H E)
def pRoundL (K : PySem.W.Frag) : V → V → Hp → VK → XK → Prop := fun a b H Q _ => ∃ (r : Addr) (t p m s : Int), a = .ref r ∧ b = .int s ∧ SqT K H r [.int t, .int p, .int m] ∧ Rule t p m ∧ m ≤ 1000000 ∧ 0 ≤ s ∧ s < m ∧
  ∀ H' q, Same H H' → H q = none → H' q = some (.tup [.int (rndT t p m s), .int (rndL t p m s)]) → Q (.ref q) H'
/-- a refusal that was asked for: True -/
def pRefR (K : PySem.W.Frag) : V → V → Hp → VK → XK → Prop := fun a b H Q _ => ∃ (r : Addr) (t p m n : Int), a = .ref r ∧ b = .int n ∧ SqT K H r [.int t, .int p, .int m] ∧ Rule t p m ∧ m ≤ 1000000 ∧ (n < 0 ∨ m ≤ n) ∧ ∀ H', Same H H' → Q (.bl true) H'
/-- data that are alike -/
theorem eqv_self {d : PyData} (h : SeqAt.shaped d = true) : PyData.eqv d d = true := SeqAt.eqv_refl d (SeqAt.canLay_of_shaped h)
theorem shp_sn (n : Int) : SeqAt.shaped (.tuple [.str "number", .int n]) = true := by
  have h : PyData.canLay0 (.str "number") = true := by decide +kernel
  show (PyData.canLay0 (.tuple [.str "number", .int n]) && decide (PyData.depth (.tuple [.str "number", .int n]) ≤ 64)) = true
  simp [PyData.canLay0, PyData.canLayAll0] at h ⊢
  exact ⟨h, of_decide_eq_true rfl⟩
theorem dp_ints {K : PySem.W.Frag} {H : Hp} : ∀ ns : List Int, DpAll K H (ns.map V.int) (ns.map PyData.int)
  | [] => .nil
  | n :: ns => .cons (.int n) (dp_ints ns)
/-! ### what the top has left -/
theorem top_mk {K : PySem.W.Frag} {h : Heap} {mg : Str → Option Value} {x : Str} {st : Stmt} {ps : List Str} {f : Addr} {oc : Value} {od an : Option Addr} {sl : Array (Option Value)} {kV dc pm cd ct : Value} (X : K.In h) (G : h.Ns mainGlobals mg)
    (a : PySem.W.nsIn K mainGlobals x = some (some (.ref f))) (l : K.lookup f = some ⟨oc, od, .func (PySem.W.fnOf x x (defArgs st) (defBody st) (defScope st) .none kV dc pm an cd ct), sl⟩) (c : PySem.W.codeIn K cd x = true) (k : PySem.W.keepIn K (.ref f) = true)
    (hb : ∀ (kV doc pm : Value) (an : Option Addr) (cdv ct : Value) (us : List Value), us.length = ps.length → bindArgs (PySem.W.fnOf x x (defArgs st) (defBody st) (defScope st) .none kV doc pm an cdv ct) ⟨us, []⟩ = pure (ps.zip us)) : Top K mg x st ps :=
  ⟨f, _, fun_mk l c k, PySem.W.mg_of X G a, (fun_mk l c k).binds hb⟩
end Tw

/-! Steps from one number to another. -/
namespace Tw
open PySem PySem.Spec PyProof.Rows L2
/-- what steps_to tells of a start and a number -/
def stV (t p m s n : Int) : V := if n ∈ (rndW t p m s).1 then .int (((rndW t p m s).1.idxOf n : Nat) : Int) else .non
def pSteps (K : PySem.W.Frag) (CN : Addr) : V → V → V → Hp → VK → XK → Prop := fun a b c H Q E => ∃ (r : Addr) (t p m s n : Int), a = .ref r ∧ b = .int s ∧ c = .int n ∧ SqT K H r [.int t, .int p, .int m] ∧ Rule t p m ∧ m ≤ 1000000 ∧
  ((0 ≤ s ∧ s < m) → (0 ≤ n ∧ n < m) → ∀ H', Same H H' → Q (stV t p m s n) H') ∧ (¬ (0 ≤ s ∧ s < m) → Bad CN s H E) ∧ ((0 ≤ s ∧ s < m) → ¬ (0 ≤ n ∧ n < m) → Bad CN n H E)
def seenD (ws : List Int) : List (Key × V) := ws.map fun x => (Sum.inl x, V.bl true)
theorem seenD_none : ∀ {ws : List Int} {x : Int}, x ∉ ws → valV (seenD ws) (Sum.inl x) = none
  | [], _, _ => rfl
  | w :: ws, x, h => by
    show valV ((Sum.inl w, V.bl true) :: seenD ws) (Sum.inl x) = none
    rw [valV_neg (fun e => h (by rw [← Sum.inl.inj e]; exact List.mem_cons_self))]
    exact seenD_none (fun hm => h (List.mem_cons_of_mem _ hm))
theorem seenD_some : ∀ {ws : List Int} {x : Int}, x ∈ ws → valV (seenD ws) (Sum.inl x) = some (.bl true)
  | w :: ws, x, h => by
    show valV ((Sum.inl w, V.bl true) :: seenD ws) (Sum.inl x) = _
    by_cases e : w = x
    · subst e
      rw [valV_pos rfl]
    · rw [valV_neg (fun z => e (Sum.inl.inj z)), seenD_some ((List.mem_cons.mp h).resolve_left (fun z => e z.symm))]
theorem seenD_snoc (ws : List Int) (x : Int) : seenD (ws ++ [x]) = seenD ws ++ [(Sum.inl x, V.bl true)] := List.map_append
def pRowL (K : PySem.W.Frag) : V → V → Hp → VK → XK → Prop := fun a b H Q _ => ∃ (r : Addr) (t p m s : Int), a = .ref r ∧ b = .int s ∧ SqT K H r [.int t, .int p, .int m] ∧ Rule t p m ∧ m ≤ 1000000 ∧ 0 ≤ s ∧ s < m ∧
  ∀ H' q, Same H H' → H q = none → H' q = some (.lst ((rndW t p m s).1.map V.int)) → Q (.ref q) H'
def pTold (K : PySem.W.Frag) : V → V → V → Hp → VK → XK → Prop := fun a b c H Q _ => ∃ (r : Addr) (t p m s n : Int), a = .ref r ∧ b = .int s ∧ c = .int n ∧ SqT K H r [.int t, .int p, .int m] ∧ Rule t p m ∧ m ≤ 1000000 ∧
  ((0 ≤ s ∧ s < m) → (0 ≤ n ∧ n < m) → ∀ H' q, Same H H' → H q = none → H' q = some (.lst [stV t p m s n]) → Q (.ref q) H') ∧
  (¬ (0 ≤ s ∧ s < m) → ∀ H' q, Same H H' → H q = none → H' q = some (.tup [.str "number", .int s]) → Q (.ref q) H') ∧
  ((0 ≤ s ∧ s < m) → ¬ (0 ≤ n ∧ n < m) → ∀ H' q, Same H H' → H q = none → H' q = some (.tup [.str "number", .int n]) → Q (.ref q) H')
theorem eqV_int (a b : Int) : eqV (.int a) (.int b) = (a == b) := rfl
theorem flat_ints (ns : List Int) : (ns.map V.int).all flatV = true := by
  rw [List.all_eq_true]
  intro x hx
  obtain ⟨y, _, rfl⟩ := List.mem_map.mp hx
  rfl
theorem inV_ints (n : Int) (ns : List Int) : inV (.int n) (ns.map V.int) = decide (n ∈ ns) := by
  unfold inV
  rw [Bool.eq_iff_iff, List.any_eq_true, decide_eq_true_eq]
  constructor
  · rintro ⟨x, hx, e⟩
    obtain ⟨y, hy, rfl⟩ := List.mem_map.mp hx
    have : y = n := by simpa [eqV_int] using e
    exact this ▸ hy
  · intro h
    exact ⟨.int n, List.mem_map.mpr ⟨n, h, rfl⟩, by simp [eqV_int]⟩
/-- the first place of a number in a list of ints, as index asks it -/
theorem idx_ints {n : Int} {ns : List Int} (h : n ∈ ns) : (ns.map V.int)[ns.idxOf n]? = some (.int n) ∧ ∀ (j : Nat) (z : V), j < ns.idxOf n → (ns.map V.int)[j]? = some z → eqV z (.int n) = false := by
  have hl := List.idxOf_lt_length_of_mem h
  constructor
  · rw [List.getElem?_map, List.getElem?_eq_getElem hl, List.getElem_idxOf hl]
    rfl
  · intro j z hj hz
    rw [List.getElem?_map] at hz
    have jl : j < ns.length := by omega
    rw [List.getElem?_eq_getElem jl] at hz
    obtain rfl : V.int ns[j] = z := Option.some.inj hz
    rw [eqV_int]
    refine beq_eq_false_iff_ne.mpr fun e => ?_
    have := List.not_of_lt_findIdx (p := fun x => x == n) (xs := ns) (i := j) hj
    simp [e] at this
theorem idx_app {n : Int} {ns : List Int} (h : n ∈ ns) : (ns ++ [n]).idxOf n = ns.idxOf n := by
  rw [List.idxOf_append, if_pos h]
end Tw

/-! Rows, and rests by taking away. -/
namespace Tw
open PySem PySem.Spec PyProof.Rows L2
def itr (f : Int → Int) : Nat → Int → Int
  | 0, x => x
  | n + 1, x => f (itr f n x)
def orb (f : Int → Int) (n : Nat) (x : Int) : List Int := (List.range n).map fun i => itr f i x
theorem orb_succ (f : Int → Int) (n : Nat) (x : Int) : orb f (n + 1) x = orb f n x ++ [itr f n x] := by
  unfold orb
  rw [List.range_succ, List.map_append]
  rfl
theorem orb_len (f : Int → Int) (n : Nat) (x : Int) : (orb f n x).length = n := by
  unfold orb
  rw [List.length_map, List.length_range]
theorem itr_rng {t p m s : Int} (m0 : 0 < m) (h : 0 ≤ s ∧ s < m) : ∀ n, 0 ≤ itr (stp t p m) n s ∧ itr (stp t p m) n s < m
  | 0 => h
  | n + 1 => stp_rng m0 _
def pRowFrom (K : PySem.W.Frag) (CN : Addr) : V → V → V → Hp → VK → XK → Prop := fun a b c H Q E => ∃ (r : Addr) (t p m s n : Int), a = .ref r ∧ b = .int s ∧ c = .int n ∧ SqT K H r [.int t, .int p, .int m] ∧ Rule t p m ∧ 0 ≤ n ∧ n ≤ 100000 ∧
  (0 ≤ s → s < m → ∀ H' q, Same H H' → H q = none → H' q = some (.tup ((orb (stp t p m) n.toNat s).map V.int)) → Q (.ref q) H') ∧ (¬ (0 ≤ s ∧ s < m) → Bad CN s H E)
def pRowLaw (K : PySem.W.Frag) : V → V → V → Hp → VK → XK → Prop := fun a b c H Q _ => ∃ (r : Addr) (t p m s n : Int), a = .ref r ∧ b = .int s ∧ c = .int n ∧ SqT K H r [.int t, .int p, .int m] ∧ Rule t p m ∧ 0 ≤ n ∧ n ≤ 100000 ∧ 0 ≤ s ∧ s < m ∧
  ∀ H' q, Same H H' → H q = none → H' q = some (.tup ((orb (stp t p m) n.toNat s).map V.int)) → Q (.ref q) H'
def pRest : V → V → Hp → VK → XK → Prop := fun a b H Q _ => ∃ x m : Int, a = .int x ∧ b = .int m ∧ 0 ≤ x ∧ x < 10000000000000000000000000 ∧ 1 ≤ m ∧ m ≤ 1000000000000 ∧ ∀ H', Same H H' → Q (.int (x % m)) H'
def pWhole2 : V → V → Hp → VK → XK → Prop := fun a b H Q _ => ∃ x : Int, a = .int x ∧ b = .int x ∧ Q (.bl true) H
def pRef2 (K : PySem.W.Frag) : V → V → V → Hp → VK → XK → Prop := fun a b c H Q _ => ∃ (r : Addr) (t p m n k : Int), a = .ref r ∧ b = .int n ∧ c = .int k ∧ SqT K H r [.int t, .int p, .int m] ∧ Rule t p m ∧ 0 ≤ k ∧ k ≤ 100000 ∧ (n < 0 ∨ m ≤ n) ∧ ∀ H', Same H H' → Q (.bl true) H'
theorem lay_ints : ∀ ns : List Int, PyData.canLayAll0 (ns.map PyData.int) = true ∧ PyData.depthAll (ns.map PyData.int) = 0
  | [] => ⟨rfl, rfl⟩
  | n :: ns => by
    obtain ⟨h1, h2⟩ := lay_ints ns
    constructor
    · show (PyData.canLay0 (.int n) && PyData.canLayAll0 (ns.map PyData.int)) = true
      rw [h1]
      rfl
    · show max (PyData.depth (.int n)) (PyData.depthAll (ns.map PyData.int)) = 0
      rw [h2]
      rfl
theorem shp_ints (ns : List Int) : SeqAt.shaped (.tuple (ns.map PyData.int)) = true := by
  obtain ⟨h1, h2⟩ := lay_ints ns
  show (PyData.canLayAll0 (ns.map PyData.int) && decide (PyData.depthAll (ns.map PyData.int) + 1 ≤ 64)) = true
  rw [h1, h2]
  rfl
theorem shp_lints (ns : List Int) : SeqAt.shaped (.list (ns.map PyData.int)) = true := by
  obtain ⟨h1, h2⟩ := lay_ints ns
  show (PyData.canLayAll0 (ns.map PyData.int) && decide (PyData.depthAll (ns.map PyData.int) + 1 ≤ 64)) = true
  rw [h1, h2]
  rfl
theorem two_pos (k : Nat) : (1 : Int) ≤ 2 ^ k := Int.pow_pos (by decide)
theorem two_small {k : Nat} {b x : Int} (hb : 1 ≤ b) (h : 2 ^ k * b ≤ x) (hx : x < 10000000000000000000000000) : k < 84 := by
  refine Nat.lt_of_not_le fun hk => ?_
  obtain ⟨j, rfl⟩ : ∃ j, k = 84 + j := ⟨k - 84, by omega⟩
  have e : (2 : Int) ^ (84 + j) = 2 ^ 84 * 2 ^ j := Int.pow_add ..
  have h1 := two_pos j
  have h2 : (2 : Int) ^ 84 * 1 ≤ 2 ^ 84 * 2 ^ j := Int.mul_le_mul_of_nonneg_left h1 (by decide)
  have h3 : (2 : Int) ^ (84 + j) * 1 ≤ 2 ^ (84 + j) * b := Int.mul_le_mul_of_nonneg_left hb (by have := two_pos (84 + j); omega)
  have h4 : (2 : Int) ^ 84 = 19342813113834066795298816 := by decide
  omega
def dbl (b : Int) (k : Nat) : List Int := (List.range (k + 1)).map fun i => 2 ^ i * b
theorem dbl_succ (b : Int) (k : Nat) : dbl b (k + 1) = dbl b k ++ [2 * (2 ^ k * b)] := by
  unfold dbl
  rw [List.range_succ (n := k + 1), List.map_append]
  show _ ++ [2 ^ (k + 1) * b] = _
  rw [Int.pow_succ, Int.mul_comm (2 ^ k) 2, Int.mul_assoc]
theorem dbl_last (b : Int) : ∀ k, ∃ l, dbl b k = l ++ [2 ^ k * b]
  | 0 => ⟨[], rfl⟩
  | k + 1 => ⟨dbl b k, by rw [dbl_succ, Int.pow_succ, Int.mul_comm (2 ^ k) 2, Int.mul_assoc]⟩
theorem dbl_len (b : Int) (k : Nat) : (dbl b k).length = k + 1 := by
  unfold dbl
  rw [List.length_map, List.length_range]
theorem dbl_rev {b : Int} {k i : Nat} (h : i ≤ k) : (dbl b k).reverse[i]? = some (2 ^ (k - i) * b) := by
  rw [List.getElem?_reverse (by rw [dbl_len]; omega), dbl_len]
  unfold dbl
  rw [List.getElem?_map, List.getElem?_range (by omega)]
  show some (2 ^ (k + 1 - 1 - i) * b) = _
  rw [show k + 1 - 1 - i = k - i by omega]
theorem two_half {b : Int} {k i : Nat} (h : i ≤ k) : (2 : Int) ^ (k + 1 - i) * b = 2 * (2 ^ (k - i) * b) := by
  rw [show k + 1 - i = (k - i) + 1 by omega, Int.pow_succ, Int.mul_comm (2 ^ (k - i)) 2, Int.mul_assoc]
end Tw

/-! Rules of my own: set(list of ints), sorted(set) and sorted(d.items()) of any size. -/
namespace Tw
open PySem PySem.Spec PyProof.Rows L2
/-- a set as it is made -/
abbrev noneYet (w : World) : Obj := { cls := .type "set", dict := none, data := .set #[] 0 (.fresh 0 0 (!w.params.followText "set-order")) }
section
variable {P : Program} {w : World} {A : Around} {E : Value → Shared → Prop} {s : Shared}
theorem set_made {q : Addr} {xs : Array Value} (ks : List Int) {Q : Value → Shared → Prop} (nh : A.handled = none) (hq : s.heap.IsList q xs) (hx : IntsAre xs.toList ks) (few : ks.length + 1 < scanBound)
    (go : ∀ (g : Heap) (k c : Nat), SetR w g s.heap.objs.size (fun j => decide (j ∈ ks)) c → (∀ b o, s.heap.get? b = some o → g.get? b = some o) → Q (.ref s.heap.objs.size) { s with heap := g, toks := k }) :
    wpAny (model P w) A (call (.type "set") [.ref q]) Q E s := by
  have sz : xs.size = ks.length := (Array.length_toList (xs := xs)).symm.trans (IntsAre.length hx)
  have at_ : ∀ (i : Nat) (v : Value), xs[i]? = some v → ∃ k t, ks[i]? = some k ∧ v = .int k t := by
    intro i v hv
    have il : i < ks.length := by
      rw [← sz]
      exact (Array.getElem?_eq_some_iff.mp hv).1
    obtain ⟨t, e⟩ := PyProof.Rows.IntsAre.int_at hx i v ((Array.getElem?_toList).trans hv)
    refine ⟨ks[i], t, List.getElem?_eq_getElem il, e.trans ?_⟩
    rw [List.getD_eq_getElem?_getD, List.getElem?_eq_getElem il]
    rfl
  have new0 : (s.heap.push (noneYet w)).get? s.heap.objs.size = some (noneYet w) := Heap.get?_push_size _ rfl
  obtain ⟨_, _, m1⟩ := F.called_set.mro
  have m2 := F.called_set.made
  have m3 := F.called_set.sub
  have m4 := F.called_set.notType
  have m5 := F.called_set.canCreate
  have m6 := F.typeCall_set_1 (.ref q)
  refine wpAny_call (codeAny_of_tree ?_)
  show wpAny _ _ (callAny (.type "set") _) _ _ _
  refine wpAny_pure ⟨Code.quiet_builtin _ (by decide +kernel), codeAny_builtin F.entry_type_call ?_⟩
  rw [Around.under_plain (weight_type_call_type "set" [.ref q] []) rfl]
  repeat (any_goals (first | assumption | wp_step))
  refine codeAny_mono (code_set_led1 (.ref q) (E := E) (Q₁ := fun o s1 => o = .ref s.heap.objs.size ∧ s1 = { s with heap := s.heap.push (noneYet w) }) ⟨rfl, rfl⟩) fun r s1 h1 => ?_
  cases r with
  | error e => exact h1
  | ok fl =>
    cases fl with
    | ret o =>
      obtain ⟨rfl, rfl⟩ := h1
      have ty : Shared.TypeIs { s with heap := s.heap.push (noneYet w) } (.ref s.heap.objs.size) "set" := ⟨_, new0, rfl⟩
      have n1 := F.called_set.init.lookup
      have n2 := F.called_set.init.bind (.ref s.heap.objs.size)
      repeat (any_goals (first | assumption | wp_step))
      refine codeAny_mono (codeAny_call_builtin (R := wants (fun v s2 => v = .none ∧ ∃ g k c, s2 = { s with heap := g, toks := k } ∧ SetR w g s.heap.objs.size (fun j => decide (j ∈ ks)) c ∧ (∀ b o, s.heap.get? b = some o → g.get? b = some o)) E)
        F.called_set.init.plain F.entry_set_init (check_set_init_1 ty ?_)) fun r2 s2 h2 => ?_
      · obtain ⟨⟨oc, od, oa, os⟩, gq, cq, nq, dq⟩ := hq
        simp only at cq dq
        subst cq dq
        have gq1 : (s.heap.push (noneYet w)).get? q = some { cls := .type "list", dict := od, data := .seq xs nq, slots := os } := Heap.get?_push_of_some _ gq
        have u1 := F.sub_list_set
        have u2 := F.sub_list_frozenset
        have u3 : (Value.type "list" == Value.type "dict") = false := by decide
        have lq : (s.heap.push (noneYet w)).IsList q xs := ⟨_, gq1, rfl, nq, rfl⟩
        have below : q < s.heap.objs.size := Heap.lt_size gq
        have sz1 : (s.heap.push (noneYet w)).objs.size = s.heap.objs.size + 1 := Heap.size_push ..
        have nh3 : A.in1.in1.in1.handled = none := by simp [nh]
        unfold Builtin.«set.__init__» noKeywords Builtin.Frozenset.updateFrom
        generalize hIt : pyIter = It
        wp_walk
        subst hIt
        refine wpAny_pyIter_list lq ?_
        refine wpAny_bind (wpAny_runValue ?_)
        have ne1 : q ≠ (s.heap.push (noneYet w)).objs.size := by rw [sz1]; exact Nat.ne_of_lt (Nat.lt_succ_of_lt below)
        have ne2 : s.heap.objs.size ∉ [(s.heap.push (noneYet w)).objs.size, q] := by
          rw [sz1]
          intro z
          rcases List.mem_cons.mp z with z | z
          · omega
          · exact absurd (List.mem_singleton.mp z).symm (Nat.ne_of_lt below)
        refine set_update_ints ((Walks.list nh3 _ q ne1 xs).toS) s.heap.objs.size ne2 ks sz few at_ xs.size 0 _ (by omega) (Nat.zero_le _) ⟨⟨_, Heap.get?_push_size _ rfl, rfl, rfl⟩, lq.push _⟩ ⟨0, Nat.le_refl 0, setR_new_at (Heap.get?_push_of_some _ new0)⟩ ?_
        intro s3 c mv _ R3
        obtain ⟨g, gn, dr, k, ox⟩ := s3
        have e1 : gn = s.gens := mv.gens
        have e2 : dr = s.drawn := mv.drawn
        have e3 : ox = s.os := mv.os
        subst e1 e2 e3
        show wpAny _ _ _ _ _ _
        refine wpAny_pure ?_
        show wpAny _ _ (ret Value.none) _ _ _
        refine wpAny_pure ⟨rfl, g, k, c, rfl, R3, fun b o e => ?_⟩
        have lb := Heap.lt_size e
        refine mv.heap b o (fun z => ?_) (Heap.get?_push_of_some _ (Heap.get?_push_of_some _ e))
        rcases List.mem_cons.mp z with z | z
        · exact absurd z (Nat.ne_of_lt lb)
        · rw [List.mem_singleton, sz1] at z
          exact absurd z (Nat.ne_of_lt (Nat.lt_succ_of_lt lb))
      · cases r2 with
        | error e => exact h2
        | ok fl2 =>
          cases fl2 with
          | ret v =>
            obtain ⟨rfl, g, k, c, rfl, R3, kp⟩ := h2
            repeat (any_goals (first | assumption | wp_step))
            exact go _ _ _ R3 kp
          | _ => exact h2.elim
    | _ => exact h1.elim
end
/-- set(xs), ints -/
def rSetI (K : PySem.W.Frag) (w : World) : List V → Hp → VK → Prop := fun vs H Q => ∃ (l : Addr) (ns : List Int), vs = [.ref l] ∧ SqL K H l (ns.map V.int) ∧ ns.length ≤ 4000 ∧ ∀ p c, H p = none → Q (.ref p) (upd H p (SetO w p (fun j => decide (j ∈ ns)) c))
theorem cr_setI {X : Cx} (hc : X.calm = true) : CallR X (.type "set") (rSetI X.K X.w) := by
  intro pins s σ H vs us Q I r h
  obtain ⟨l, ns, rfl, hs, few, q⟩ := h
  obtain ⟨its, rv, hl, hz⟩ := I.list hs
  rw [Vals.ref1 r]
  refine set_made ns (I.ok.hd hc) hl.isList (by simpa using ints_of_vals rv) (by unfold scanBound; omega) fun g k c R kp => ?_
  exact ⟨.ref _, upd H s.heap.objs.size (SetO X.w s.heap.objs.size (fun j => decide (j ∈ ns)) c), I.laid (t' := k) kp (Nat.le_refl _) (setO_new R), rfl, q _ c (I.hok.fresh (Nat.le_refl _))⟩
/-- sorted(a set of ints) -/
def rSrtSet (w : World) : List V → Hp → VK → Prop := fun vs H Q => ∃ (a : Addr) (S : Int → Bool) (n : Nat), vs = [V.ref a] ∧ H a = some (SetO w a S n) ∧
  ∀ (ns : List Int) (p : Addr), ns.Pairwise (· < ·) → (∀ k : Int, k ∈ ns ↔ S k = true) → ns.length = n → H p = none → Q (.ref p) (upd H p (.lst (ns.map V.int)))
theorem rising {ns : List Int} (h : ns.Pairwise (· ≤ ·)) (nd : ns.Nodup) : ns.Pairwise (· < ·) := by
  rw [List.nodup_iff_pairwise_ne] at nd
  exact (h.and nd).imp fun {a b} z => by have := z.1; have := z.2; omega
theorem cr_srtSet {X : Cx} (hc : X.calm = true) : CallR X (.builtin "sorted") (rSrtSet X.w) := by
  intro pins s σ H vs us Q I r h
  obtain ⟨a, S, n, rfl, ha, q⟩ := h
  obtain ⟨o, es, ep, t, ho, hex, hd, g, nd, hm, hb, hf, hn, hr, hl⟩ := setO_get I ha
  rw [Vals.ref1 r]
  have nlt : n < 4096 := by rw [← hn]; exact hb
  refine Calls.call_function_entry kind_sorted plain_sorted entry_sorted (args_sorted1 _) ?_
  unfold Builtin.«sorted»
  refine wpAny_bind (m := checkCount "sorted" 1 1 _) (wpAny_pure ?_)
  refine wpAny_bind (collect_set (A := X.A.in1) (I.ok.hd hc) ⟨o, ho, hex.1, hd⟩ hf hb hr hl fun s1 us k1 z1 g1 o1 pm => ?_)
  have ul : us.length = n := by rw [pm.length_eq, List.length_map, Array.length_toList]; exact hn
  have ui : ∀ v ∈ us, ∃ i t, v = Value.int i t := fun v hv => by
    obtain ⟨e, he, rfl⟩ := List.mem_map.mp (pm.mem_iff.mp hv)
    obtain ⟨k, tk, h1, _⟩ := g e he
    exact ⟨k, tk, h1⟩
  have hI := SrtO.ints_iv ui
  have pk : (us.map SrtO.iv).Perm (es.toList.map keyOf) := by
    have z := pm.map SrtO.iv
    rw [List.map_map] at z
    refine z.trans (List.Perm.of_eq (List.map_congr_left fun e he => ?_))
    obtain ⟨k, tk, h1, _⟩ := g e he
    show SrtO.iv e.2 = keyOf e
    unfold keyOf
    rw [h1]
    rfl
  refine wpAny_bind (wpAny_newList ?_ (by rw [ul, sizeLine_eq]; omega))
  have top : (s1.heap.push (seqObj "list" us.toArray 0)).get? s1.heap.objs.size = some (seqObj "list" us.toArray 0) := Heap.get?_push_size _ rfl
  refine wpAny_bind (wpAny_holding (wpAny_call_entry slot_list_sort ⟨_, top, rfl⟩ entry_list_sort (SrtO.list_sort_ord SrtO.swo_int top (by rw [ul, sizeLine_eq]; omega) (fun l2 => SrtO.ints_sortable hI l2) fun out h1 h2 => ⟨_, rfl, ?_⟩) (args_list_sort _)))
  obtain ⟨k2, k3, k4⟩ := SrtO.ints_out hI h1 h2
  obtain ⟨c, hcc⟩ := sortedHeap_at (vs := us) (out := out.toArray) top
  have pn := k3.trans pk
  have nn : H s1.heap.objs.size = none := I.hok.fresh z1
  refine wpAny_pure ⟨_, rfl, .ref s1.heap.objs.size, upd H s1.heap.objs.size (.lst ((out.map SrtO.iv).map V.int)), ?_, rfl, q _ _ (rising k4 (pn.nodup_iff.mpr nd)) (fun k => by rw [pn.mem_iff, hm k]) (by rw [pn.length_eq, List.length_map, Array.length_toList]; exact hn) nn⟩
  have kp : ∀ b u, s.heap.get? b = some u → (sortedHeap (s1.heap.push (seqObj "list" us.toArray 0)) s1.heap.objs.size us out.toArray).get? b = some u := fun b u e => by
    have e1 := k1 b u e
    have lb := Heap.lt_size e1
    rw [sortedHeap_old (Nat.ne_of_lt lb) (by rw [size_push']; exact Nat.lt_succ_of_lt lb)]
    exact Heap.get?_push_of_some _ e1
  have J := I.call' (s' := { s1 with heap := sortedHeap (s1.heap.push (seqObj "list" us.toArray 0)) s1.heap.objs.size us out.toArray }) (ch := []) (H' := upd H s1.heap.objs.size (.lst ((out.map SrtO.iv).map V.int))) o1 (Un.laid kp z1 nn) (I.hok.laid kp z1 ⟨by
    rw [List.length_map, pn.length_eq, List.length_map, Array.length_toList, hn, sizeLine_eq]
    omega, out, c, vals_of_ints k2, hcc⟩) (by show AllBare s1.gens; rw [g1]; exact I.bare) (fun _ z => nomatch z)
  exact J
end Tw

/-! sorted(d.items()), ints to ints, of any size. -/
namespace Tw
open PySem PySem.Spec PyProof.Rows L2 L2.DX
def dInts (zs : List (Int × Int)) : List (Key × V) := zs.map fun z => (Sum.inl z.1, V.int z.2)
/-- d.items() -/
def rItemsK : V → List V → Hp → VK → Prop := fun x xs H Q => ∃ (a : Addr) (kvs : List (Key × V)), x = .ref a ∧ xs = [] ∧ H a = some (.dK kvs) ∧ ∀ p, H p = none → Q (.ref p) (upd H p (itemsO p a))
theorem mt_itemsK {X : Cx} : MtR X "dict.items" rItemsK := by
  intro pins s σ H x xs v us Q I rx rxs h
  obtain ⟨a, kvs, rfl, rfl, ha, q⟩ := h
  cases rx
  cases rxs
  obtain ⟨z, hd, ws, kv, o, es, ep, ho, hx, hdat, _⟩ := I.hok a _ ha
  refine DT.callItems (es := es) (ep := ep) hd ⟨o, ho, hx, hdat⟩ ?_
  exact ⟨.ref s.heap.objs.size, _, I.laid (t' := s.toks) (fun b u e => Heap.get?_push_of_some _ e) (Nat.le_refl _) (itemsO_ok (Heap.get?_push_size _ rfl)), rfl, q _ (I.hok.fresh (Nat.le_refl _))⟩
theorem ent_ix {P : Program} {w : World} : ∀ {es : List DictEntry} {vs : List (Key × Value)} {zs : List (Int × Int)}, Pairs (mixKind P w) es vs → KV (dInts zs) vs → ∀ (j : Nat) (e : DictEntry), es[j]? = some e → ∃ z t u, zs[j]? = some z ∧ e.key = .int z.1 t ∧ e.val = .int z.2 u
  | [], _, _, _, _, j, e, h => by simp at h
  | e0 :: es, _, zs, .cons h1 h2 h3, kv, j, e, h => by
    cases zs with
    | nil => cases kv
    | cons z zs =>
      cases kv with
      | cons a b =>
        cases j with
        | zero =>
          obtain rfl : e0 = e := by simpa using h
          obtain ⟨a1, u, a2⟩ := a
          have h1' : keyIs (Sum.inl z.1) e0.key = true := by rw [show (Sum.inl z.1 : Key) = _ from a1]; exact h1
          rcases keyIs_shape h1' with ⟨i, t, e1, e2⟩ | ⟨i, t, e1, e2⟩
          · cases e1
            exact ⟨z, t, u, rfl, e2, h2.trans a2⟩
          · cases e1
        | succ j => exact ent_ix h3 b j e (by simpa using h)
def rSrtIt : List V → Hp → VK → Prop := fun vs H Q => ∃ (p a : Addr) (zs : List (Int × Int)), vs = [.ref p] ∧ H p = some (itemsO p a) ∧ H a = some (.dK (dInts zs)) ∧
  ∀ (H' : Hp) (l : Addr) (ps : List (Addr × (Int × Int))), Same H H' → H l = none → (ps.map (·.2)).Perm zs → (ps.map (·.2)).Pairwise (fun y z => SrtO.lexB z y = false) → H' l = some (.lst (ps.map fun z => V.ref z.1)) → (∀ z ∈ ps, H' z.1 = some (.tup [.int z.2.1, .int z.2.2])) → Q (.ref l) H'
open Classical in
theorem cr_srtItems {X : Cx} (hc : X.calm = true) : CallR X (.builtin "sorted") rSrtIt := by
  intro pins s σ H xs us Q I r h
  obtain ⟨p, a, zs, rfl, hp, ha, q⟩ := h
  rw [Vals.ref1 r]
  have view : s.heap.IsItemsView p a := (I.hok p _ hp).1
  obtain ⟨z, hd, ws, kv, o, es, ep, ho, hx, hdat, _, prs, _⟩ := I.hok a _ ha
  have lz : (dInts zs).length = zs.length := List.length_map ..
  have l1 : zs.length = ws.length := lz.symm.trans (Paired.length kv)
  have l2 : es.size = ws.length := (Array.length_toList (xs := es)).symm.trans prs.length
  rw [lz] at z
  refine DT.sortedI (es := es) (ep := ep) (I.ok.hd hc) view ⟨o, ho, hx, hdat⟩ (by omega) fun g tk as keep more la made => ?_
  have lak : as.length = zs.length := by omega
  have nd : as.Nodup := made.rise.imp fun h => Nat.ne_of_lt h
  -- the pair at each of as
  have pr : ∀ (j : Nat) (b : Addr), as[j]? = some b → ∃ z t u, zs[j]? = some z ∧ g.get? b = some { cls := .type "tuple", data := .seq #[.int z.1 t, .int z.2 u] } := by
    intro j b hj
    obtain ⟨e, he, hg⟩ := made.pairs j b hj
    obtain ⟨z, t, u, hz, e1, e2⟩ := ent_ix prs kv j e (by rw [Array.getElem?_toList]; exact he)
    exact ⟨z, t, u, hz, by rw [hg, e1, e2]⟩
  have one : ∀ b, b ∈ as → ∃ z : Int × Int, Srt.IsPair g (.ref b) z.1 z.2 := by
    intro b hb
    obtain ⟨j, hj⟩ := List.mem_iff_getElem?.mp hb
    obtain ⟨z, t, u, _, hg⟩ := pr j b hj
    exact ⟨z, b, _, t, u, 0, rfl, hg, rfl, rfl⟩
  obtain ⟨k, hk⟩ : ∃ k : Value → Int × Int, ∀ b, b ∈ as → Srt.IsPair g (.ref b) (k (.ref b)).1 (k (.ref b)).2 := by
    refine ⟨fun v => if hv : ∃ z : Int × Int, Srt.IsPair g v z.1 z.2 then hv.choose else (0, 0), fun b hb => ?_⟩
    have hv := one b hb
    show Srt.IsPair g (.ref b) (dite _ _ _ : Int × Int).1 (dite _ _ _ : Int × Int).2
    rw [dif_pos hv]
    exact hv.choose_spec
  have kz : ∀ (j : Nat) (b : Addr), as[j]? = some b → zs[j]? = some (k (.ref b)) := by
    intro j b hj
    obtain ⟨z, t, u, hz, hg⟩ := pr j b hj
    obtain ⟨b', o', t', u', n', e1, e2, e3, e4⟩ := hk b (List.mem_of_getElem? hj)
    cases e1
    rw [hg] at e2
    cases e2
    simp only at e4
    have e5 : k (.ref b) = z := by
      injection e4 with e4 _
      have e6 := congrArg Array.toList e4
      simp at e6
      exact Prod.ext e6.1.1.symm e6.2.1.symm
    rw [e5]
    exact hz
  have mz : as.map (fun b => k (.ref b)) = zs := by
    refine List.ext_getElem? fun j => ?_
    rw [List.getElem?_map]
    cases hj : as[j]? with
    | none =>
      rw [List.getElem?_eq_none_iff] at hj
      rw [List.getElem?_eq_none_iff.mpr (by omega)]
      rfl
    | some b => rw [kz j b hj]; rfl
  -- the sort
  have top : (g.push { cls := .type "list", data := .seq (as.map Value.ref).toArray }).get? g.objs.size = some (seqObj "list" (as.map Value.ref).toArray 0) := Heap.get?_push_size _ rfl
  have up : ∀ b o, g.get? b = some o → (g.push { cls := .type "list", data := .seq (as.map Value.ref).toArray }).get? b = some o := fun b o e => Heap.get?_push_of_some _ e
  have off : ∀ b o, g.get? b = some o → b ≠ g.objs.size := fun b o e => Nat.ne_of_lt (Heap.lt_size e)
  generalize hg2 : g.push { cls := .type "list", data := .seq (as.map Value.ref).toArray } = g2 at top up ⊢
  have isr : ∀ v ∈ as.map Value.ref, ∃ b, b ∈ as ∧ v = .ref b := fun v hv => by
    obtain ⟨b, hb, rfl⟩ := List.mem_map.mp hv
    exact ⟨b, hb, rfl⟩
  refine wpAny_call_entry slot_list_sort ⟨_, top, rfl⟩ entry_list_sort
    (SrtO.list_sort_ord (s := { s with heap := g2, toks := tk }) (SrtO.swo_lex k) top (by rw [List.length_map, lak]; exact z) (fun h2 => SrtO.pairs_sortableO (s := { s with heap := g2, toks := tk }) (by omega) (fun v hv => ?_) fun o e c => ?_) fun out o1 o2 => ⟨.none, rfl, ?_⟩) (args_list_sort _)
  · obtain ⟨b, hb, rfl⟩ := isr v hv
    exact (hk b hb).keeps fun c o e _ => up c o e
  · rw [show g2.get? g.objs.size = _ from top] at e
    cases e
    exact absurd (Value.type.inj c) (by decide)
  · show EP X pins σ Q (.ref g.objs.size) { s with heap := sortedHeap g2 g.objs.size (as.map Value.ref) out.toArray, toks := tk }
    have h3 : ∀ u ∈ out, ∃ b, u = Value.ref b := fun u hu => by
      obtain ⟨b, _, e⟩ := isr u (o2.perm.mem_iff.mp hu)
      exact ⟨b, e⟩
    obtain ⟨bs, rfl⟩ : ∃ bs : List Addr, out = bs.map Value.ref := by
      clear o1 o2
      induction out with
      | nil => exact ⟨[], rfl⟩
      | cons u out ih =>
        obtain ⟨b, rfl⟩ := h3 u List.mem_cons_self
        obtain ⟨bs, rfl⟩ := ih fun v hv => h3 v (List.mem_cons_of_mem _ hv)
        exact ⟨b :: bs, rfl⟩
    have inj : ∀ x y : Addr, Value.ref x = Value.ref y → x = y := fun x y e => by cases e; rfl
    have pb : bs.Perm as := by
      have e := o2.perm.map (fun v => match v with | Value.ref b => b | _ => 0)
      rw [List.map_map, List.map_map] at e
      have id1 : ((fun v => match v with | Value.ref b => b | _ => 0) ∘ Value.ref : Addr → Addr) = id := rfl
      rw [id1, List.map_id, List.map_id] at e
      exact e
    have kF : ∀ b o, b ≠ g.objs.size → g2.get? b = some o → (sortedHeap g2 g.objs.size (as.map Value.ref) (bs.map Value.ref).toArray).get? b = some o := fun b o hb e => (sortedHeap_old hb (Heap.lt_size e)).trans e
    have kS : ∀ b o, s.heap.get? b = some o → (sortedHeap g2 g.objs.size (as.map Value.ref) (bs.map Value.ref).toArray).get? b = some o := fun b o e => kF b o (off _ _ (keep b o e)) (up b o (keep b o e))
    obtain ⟨eF, heF⟩ := sortedHeap_at (vs := as.map Value.ref) (out := (bs.map Value.ref).toArray) top
    have I1 : Inv X pins σ H { s with heap := sortedHeap g2 g.objs.size (as.map Value.ref) (bs.map Value.ref).toArray, toks := tk } := I.kept (t' := tk) kS
    have hn0 : H g.objs.size = none := I.hok.fresh (Nat.le_of_lt more)
    have bl : bs.length = zs.length := pb.length_eq.trans lak
    have I2 : Inv X pins σ (upd H g.objs.size (.lst (bs.map V.ref))) { s with heap := sortedHeap g2 g.objs.size (as.map Value.ref) (bs.map Value.ref).toArray, toks := tk } :=
      I1.take (t' := tk) (fun b ob _ e => e) (I.fpOk (Nat.le_of_lt more) hn0) ⟨by rw [List.length_map, bl]; exact z, bs.map Value.ref, eF, LiI.vals_refs bs, heF⟩
    obtain ⟨H2, I3, gr, qt⟩ := takeT (P := fun b vs => vs = [.int (k (.ref b)).1, .int (k (.ref b)).2]) I as _ I2 nd fun b hb => by
      have hbl : s.heap.objs.size ≤ b := Nat.le_of_lt (made.above b hb)
      obtain ⟨b', o', t', u', n', e1, e2, e3, e4⟩ := hk b hb
      cases e1
      refine ⟨hbl, ?_, _, rfl, fun H3 => ⟨by show 2 ≤ sizeLine; decide, [.int (k (.ref b)).1 t', .int (k (.ref b)).2 u'], .cons ⟨t', rfl⟩ (.cons ⟨u', rfl⟩ .nil), ⟨o', kF _ _ (off _ _ e2) (up _ _ e2), e3, n', e4⟩⟩⟩
      rw [upd_ne (off _ _ e2)]
      exact I.hok.fresh hbl
    refine ⟨.ref g.objs.size, H2, I3, rfl, q H2 g.objs.size (bs.map fun b => (b, k (.ref b))) (fun b o e => gr b o (by rw [upd_ne (ne_of_none e hn0)]; exact e)) hn0 ?_ ?_ ?_ ?_⟩
    · rw [List.map_map]
      have e := pb.map (fun b => k (.ref b))
      rw [mz] at e
      exact e
    · rw [List.map_map, List.pairwise_map]
      have e := o1
      unfold SrtO.Srtd at e
      rw [List.pairwise_map] at e
      exact e
    · rw [List.map_map]
      exact gr _ _ upd_same
    · intro y hy
      obtain ⟨b, hb, rfl⟩ := List.mem_map.mp hy
      obtain ⟨vs, rfl, hH⟩ := qt b (pb.mem_iff.mp hb)
      exact hH
end Tw

/-! Rounds: least periods, how many numbers have each. -/
namespace Tw
open PySem PySem.Spec PyProof.Rows L2
theorem itr_add (f : Int → Int) (a b : Nat) (x : Int) : itr f (a + b) x = itr f a (itr f b x) := by
  induction a with
  | zero => rw [Nat.zero_add]; rfl
  | succ a ih => rw [Nat.add_right_comm]; exact congrArg f ih
theorem itr_one (f : Int → Int) (n : Nat) (x : Int) : itr f n (f x) = itr f (n + 1) x := (itr_add f n 1 x).symm
theorem itr_fix {f : Int → Int} {L : Nat} {x : Int} (h : itr f L x = x) : ∀ n, itr f (L * n) x = x
  | 0 => rfl
  | n + 1 => by rw [Nat.mul_succ, itr_add, h, itr_fix h n]
def Per (f : Int → Int) (L : Nat) (x : Int) : Prop := 0 < L ∧ itr f L x = x ∧ ∀ j, j < L → 0 < j → itr f j x ≠ x
theorem per_uniq {f : Int → Int} {L M : Nat} {x : Int} (h : Per f L x) (g : Per f M x) : L = M := by
  rcases Nat.lt_trichotomy L M with c | c | c
  · exact absurd h.2.1 (g.2.2 L c h.1)
  · exact c
  · exact absurd g.2.1 (h.2.2 M c g.1)
theorem per_ex {f : Int → Int} {x : Int} : ∀ n : Nat, 0 < n → itr f n x = x → ∃ L, L ≤ n ∧ Per f L x := by
  intro n
  induction n using Nat.strongRecOn with
  | ind n ih =>
    intro h0 h
    by_cases c : ∃ j, j < n ∧ 0 < j ∧ itr f j x = x
    · obtain ⟨j, j1, j2, j3⟩ := c
      obtain ⟨L, l1, l2⟩ := ih j j1 j2 j3
      exact ⟨L, by omega, l2⟩
    · exact ⟨n, Nat.le_refl n, h0, h, fun j j1 j2 j3 => c ⟨j, j1, j2, j3⟩⟩
open Classical in
noncomputable def pcnt (f : Int → Int) (ws : List Int) (L : Nat) : Nat := ws.countP fun x => decide (Per f L x)
theorem pcnt_app (f : Int → Int) (ws vs : List Int) (L : Nat) : pcnt f (ws ++ vs) L = pcnt f ws L + pcnt f vs L := List.countP_append ..
theorem pcnt_zero {f : Int → Int} {ws : List Int} {L : Nat} (h : ∀ x ∈ ws, ¬ Per f L x) : pcnt f ws L = 0 := by
  unfold pcnt
  rw [List.countP_eq_zero]
  intro x hx
  simp [h x hx]
theorem pcnt_same {f : Int → Int} {ws vs : List Int} {L : Nat} (n1 : ws.Nodup) (n2 : vs.Nodup) (h : ∀ x, Per f L x → (x ∈ ws ↔ x ∈ vs)) : pcnt f ws L = pcnt f vs L := by
  unfold pcnt
  rw [List.countP_eq_length_filter, List.countP_eq_length_filter]
  refine List.Perm.length_eq ((List.perm_ext_iff_of_nodup (n1.filter _) (n2.filter _)).mpr fun x => ?_)
  rw [List.mem_filter, List.mem_filter]
  simp only [decide_eq_true_eq]
  exact ⟨fun z => ⟨(h x z.2).mp z.1, z.2⟩, fun z => ⟨(h x z.2).mpr z.1, z.2⟩⟩
theorem pcnt_pos {f : Int → Int} {ws : List Int} {L : Nat} : 0 < pcnt f ws L ↔ ∃ x, x ∈ ws ∧ Per f L x := by
  unfold pcnt
  rw [List.countP_pos_iff]
  simp
/-! ### a walk's new numbers -/
theorem orb_cons (f : Int → Int) (n : Nat) (x : Int) : orb f (n + 1) x = x :: orb f n (f x) := by
  unfold orb
  rw [List.range_succ_eq_map, List.map_cons, List.map_map]
  refine congrArg (x :: ·) (List.map_congr_left fun i _ => ?_)
  exact (itr_one f i x).symm
theorem orb_mem {f : Int → Int} {n : Nat} {x y : Int} : y ∈ orb f n x ↔ ∃ i, i < n ∧ itr f i x = y := by
  unfold orb
  simp [List.mem_map, List.mem_range]
theorem wk_form (f : Int → Int) : ∀ (k : Nat) (ws : List Int) (x : Int), ∃ n, n ≤ k ∧ wk f k ws x = (ws ++ orb f n x, itr f n x)
  | 0, ws, x => ⟨0, Nat.le_refl 0, by show (ws, x) = (ws ++ [], x); rw [List.append_nil]⟩
  | k + 1, ws, x => by
    by_cases h : x ∈ ws
    · refine ⟨0, Nat.zero_le _, ?_⟩
      rw [wk_in h]
      show (ws, x) = (ws ++ [], x)
      rw [List.append_nil]
    · obtain ⟨n, hn, e⟩ := wk_form f k (ws ++ [x]) (f x)
      refine ⟨n + 1, by omega, ?_⟩
      rw [wk_out h, e, orb_cons, List.append_assoc, itr_one]
      rfl
/-- closed under steps -/
def Fcl (f : Int → Int) (ws : List Int) : Prop := ∀ a ∈ ws, f a ∈ ws
theorem fcl_itr {f : Int → Int} {ws : List Int} (h : Fcl f ws) {a : Int} (ha : a ∈ ws) : ∀ n, itr f n a ∈ ws
  | 0 => ha
  | n + 1 => h _ (fcl_itr h ha n)
theorem fcl_walk {f : Int → Int} {ws : List Int} {x : Int} {n : Nat} (h : Fcl f ws) (hy : itr f n x ∈ ws ++ orb f n x) : Fcl f (ws ++ orb f n x) := by
  intro a ha
  rcases List.mem_append.mp ha with ha | ha
  · exact List.mem_append_left _ (h a ha)
  · obtain ⟨i, hi, rfl⟩ := orb_mem.mp ha
    by_cases c : i + 1 < n
    · exact List.mem_append_right _ (orb_mem.mpr ⟨i + 1, c, rfl⟩)
    · obtain rfl : n = i + 1 := by omega
      exact hy
theorem orb_inj {f : Int → Int} {ws : List Int} {n : Nat} {x : Int} (nd : (ws ++ orb f n x).Nodup) {i j : Nat} (hi : i < n) (hj : j < n) (e : itr f i x = itr f j x) : i = j := by
  have nd2 := (List.nodup_append.mp nd).2.1
  unfold orb at nd2
  have z : ((List.range n).map fun i => itr f i x)[i]? = ((List.range n).map fun i => itr f i x)[j]? := by
    rw [List.getElem?_map, List.getElem?_map, List.getElem?_range hi, List.getElem?_range hj]
    exact congrArg some e
  exact (List.getElem?_inj (by rw [List.length_map, List.length_range]; exact hi) nd2).mp z
/-- the walk ends in old numbers: none of the new ones comes again -/
theorem walk_old {f : Int → Int} {ws : List Int} {n : Nat} {x : Int} (nd : (ws ++ orb f n x).Nodup) (fc : Fcl f ws) (h : itr f n x ∈ ws) {i : Nat} (hi : i < n) (L : Nat) : ¬ Per f L (itr f i x) := by
  rintro ⟨l0, l1, _⟩
  have e := itr_fix l1 n
  have le : n ≤ L * n := Nat.le_mul_of_pos_left n l0
  rw [← itr_add, show L * n + i = (L * n - (n - i)) + n by omega, itr_add] at e
  have hm : itr f i x ∈ ws := by rw [← e]; exact fcl_itr fc h _
  exact (List.nodup_append.mp nd).2.2 _ hm _ (orb_mem.mpr ⟨i, hi, rfl⟩) rfl
section
variable {f : Int → Int} {ws : List Int} {n j : Nat} {x : Int}
theorem cyc_step (hj : j < n) (h : itr f n x = itr f j x) {i : Nat} (hi : j ≤ i) : itr f (i + (n - j)) x = itr f i x := by
  rw [show i + (n - j) = (i - j) + n by omega, itr_add, h, ← itr_add, show i - j + j = i by omega]
theorem cyc_in (hj : j < n) (h : itr f n x = itr f j x) (i : Nat) : j ≤ i → ∃ k, j ≤ k ∧ k < n ∧ itr f i x = itr f k x := by
  induction i using Nat.strongRecOn with
  | ind i ih =>
    intro hi
    by_cases c : i < n
    · exact ⟨i, hi, c, rfl⟩
    · obtain ⟨k, k1, k2, k3⟩ := ih (i - (n - j)) (by omega) (by omega)
      refine ⟨k, k1, k2, ?_⟩
      rw [← k3, ← cyc_step hj h (i := i - (n - j)) (by omega), show i - (n - j) + (n - j) = i by omega]
theorem walk_tail (nd : (ws ++ orb f n x).Nodup) (hj : j < n) (h : itr f n x = itr f j x) {i : Nat} (hi : i < j) (L : Nat) : ¬ Per f L (itr f i x) := by
  rintro ⟨l0, l1, _⟩
  have e := itr_fix l1 n
  have le : n ≤ L * n := Nat.le_mul_of_pos_left n l0
  rw [← itr_add] at e
  obtain ⟨k, k1, k2, k3⟩ := cyc_in hj h (L * n + i) (by omega)
  have := orb_inj nd k2 (by omega) (k3.symm.trans e)
  omega
theorem walk_cyc (nd : (ws ++ orb f n x).Nodup) (hj : j < n) (h : itr f n x = itr f j x) {i : Nat} (hi : j ≤ i) (hn : i < n) : Per f (n - j) (itr f i x) := by
  refine ⟨by omega, ?_, fun d d1 d0 e => ?_⟩
  · rw [← itr_add, Nat.add_comm]
    exact cyc_step hj h hi
  · rw [← itr_add] at e
    by_cases c : d + i < n
    · have := orb_inj nd c hn e
      omega
    · have e2 : itr f (d + i) x = itr f (d + i - (n - j)) x := by
        have := cyc_step hj h (i := d + i - (n - j)) (by omega)
        rw [show d + i - (n - j) + (n - j) = d + i by omega] at this
        exact this
      have := orb_inj nd (i := d + i - (n - j)) (j := i) (by omega) hn (e2.symm.trans e)
      omega
end
theorem cnt_from (j : Nat) : ∀ n, (List.range n).countP (fun i => decide (j ≤ i)) = n - j
  | 0 => by simp
  | n + 1 => by
    rw [List.range_succ, List.countP_append, cnt_from j n]
    by_cases c : j ≤ n
    · rw [List.countP_cons_of_pos (by simp [c])]
      show n - j + (0 + 1) = n + 1 - j
      omega
    · rw [List.countP_cons_of_neg (by simp [c])]
      show n - j + 0 = n + 1 - j
      omega
theorem pcnt_old {f : Int → Int} {ws : List Int} {n : Nat} {x : Int} (nd : (ws ++ orb f n x).Nodup) (fc : Fcl f ws) (h : itr f n x ∈ ws) (L : Nat) : pcnt f (ws ++ orb f n x) L = pcnt f ws L := by
  rw [pcnt_app, pcnt_zero (ws := orb f n x), Nat.add_zero]
  intro y hy
  obtain ⟨i, hi, rfl⟩ := orb_mem.mp hy
  exact walk_old nd fc h hi L
theorem pcnt_new {f : Int → Int} {ws : List Int} {n j : Nat} {x : Int} (nd : (ws ++ orb f n x).Nodup) (hj : j < n) (h : itr f n x = itr f j x) (L : Nat) : pcnt f (ws ++ orb f n x) L = pcnt f ws L + if L = n - j then n - j else 0 := by
  rw [pcnt_app]
  refine congrArg (pcnt f ws L + ·) ?_
  by_cases c : L = n - j
  · rw [if_pos c, ← cnt_from j n]
    unfold pcnt orb
    rw [List.countP_map]
    refine List.countP_congr fun i hi => ?_
    rw [List.mem_range] at hi
    simp only [Function.comp, decide_eq_true_eq]
    constructor
    · intro z
      refine Nat.le_of_not_lt fun z2 => ?_
      exact walk_tail nd hj h z2 L z
    · intro z
      rw [c]
      exact walk_cyc nd hj h z hi
  · rw [if_neg c]
    refine pcnt_zero fun y hy z => ?_
    obtain ⟨i, hi, rfl⟩ := orb_mem.mp hy
    by_cases d : j ≤ i
    · exact c (per_uniq z (walk_cyc nd hj h d hi))
    · exact walk_tail nd hj h (by omega) L z
/-! ### all numbers of a bound -/
def alls (m : Int) : List Int := (List.range m.toNat).map fun (i : Nat) => (i : Int)
theorem alls_mem {m x : Int} : x ∈ alls m ↔ 0 ≤ x ∧ x < m := by
  unfold alls
  rw [List.mem_map]
  constructor
  · rintro ⟨i, hi, rfl⟩
    rw [List.mem_range] at hi
    omega
  · rintro ⟨h0, h1⟩
    exact ⟨x.toNat, by rw [List.mem_range]; omega, by show ((x.toNat : Nat) : Int) = x; omega⟩
theorem alls_nodup (m : Int) : (alls m).Nodup := by
  unfold alls
  rw [List.nodup_iff_pairwise_ne, List.pairwise_map]
  have := List.nodup_range (n := m.toNat)
  rw [List.nodup_iff_pairwise_ne] at this
  exact this.imp fun {a b} h => by omega
/-- how many numbers have the least period L -/
noncomputable def Nper (f : Int → Int) (m : Int) (L : Nat) : Nat := pcnt f (alls m) L
noncomputable def Crnd (f : Int → Int) (m : Int) (L : Nat) : Int := ((Nper f m L / L : Nat) : Int)
structure Rds (f : Int → Int) (m : Int) (zs : List (Int × Int)) : Prop where
  up : zs.Pairwise fun y z => y.1 < z.1
  mem : ∀ L c : Int, (L, c) ∈ zs ↔ ∃ n : Nat, L = n ∧ 0 < Nper f m n ∧ c = Crnd f m n
theorem up_uniq : ∀ {l k : List (Int × Int)}, l.Pairwise (fun y z => y.1 < z.1) → k.Pairwise (fun y z => y.1 < z.1) → (∀ z, z ∈ l ↔ z ∈ k) → l = k
  | [], [], _, _, _ => rfl
  | [], b :: k, _, _, h => absurd ((h b).mpr List.mem_cons_self) (by simp)
  | a :: l, [], _, _, h => absurd ((h a).mp List.mem_cons_self) (by simp)
  | a :: l, b :: k, h1, h2, h => by
    rw [List.pairwise_cons] at h1 h2
    have e : a = b := by
      rcases List.mem_cons.mp ((h a).mp List.mem_cons_self) with e | e
      · exact e
      · rcases List.mem_cons.mp ((h b).mpr List.mem_cons_self) with e2 | e2
        · exact e2.symm
        · have := h2.1 a e
          have := h1.1 b e2
          omega
    subst e
    refine congrArg (a :: ·) (up_uniq h1.2 h2.2 fun z => ⟨fun hz => ?_, fun hz => ?_⟩)
    · rcases List.mem_cons.mp ((h z).mp (List.mem_cons_of_mem _ hz)) with e | e
      · have := h1.1 z hz
        rw [e] at this
        omega
      · exact e
    · rcases List.mem_cons.mp ((h z).mpr (List.mem_cons_of_mem _ hz)) with e | e
      · have := h2.1 z hz
        rw [e] at this
        omega
      · exact e
theorem Rds.uniq {f : Int → Int} {m : Int} {zs ys : List (Int × Int)} (h : Rds f m zs) (g : Rds f m ys) : zs = ys :=
  up_uniq h.up g.up fun z => (h.mem z.1 z.2).trans (g.mem z.1 z.2).symm
/-- what stands behind all walks -/
theorem nper_of {f : Int → Int} {m : Int} {ws : List Int} (nd : ws.Nodup) (rg : Rng m ws) (h : ∀ x, 0 ≤ x → x < m → (∃ L, Per f L x) → x ∈ ws) (L : Nat) : pcnt f ws L = Nper f m L :=
  pcnt_same nd (alls_nodup m) fun x hx => ⟨fun z => alls_mem.mpr (rg x z), fun z => by
    obtain ⟨a, b⟩ := alls_mem.mp z
    exact h x a b ⟨L, hx⟩⟩
/-! ### numbers that come again -/
theorem pigeon {m : Int} (h : Nat → Int) (hr : ∀ i, 0 ≤ h i ∧ h i < m) : ∃ i j, i < j ∧ h i = h j := by
  refine Classical.byContradiction fun c => ?_
  have nd : ((List.range (m.toNat + 1)).map h).Nodup := by
    rw [List.nodup_iff_pairwise_ne, List.pairwise_map]
    have := List.pairwise_lt_range (n := m.toNat + 1)
    exact this.imp fun {a b} l e => c ⟨a, b, l, e⟩
  have := int_len (m := m) nd fun x hx => by
    obtain ⟨i, _, rfl⟩ := List.mem_map.mp hx
    exact hr i
  rw [List.length_map, List.length_range] at this
  omega
/-- where each is a next one of one of them, each comes again -/
theorem onto_per {f : Int → Int} {m : Int} {l : List Int} (rg : Rng m l) (on : ∀ y ∈ l, ∃ z ∈ l, f z = y) {x : Int} (hx : x ∈ l) : ∃ L, Per f L x := by
  obtain ⟨g, hg⟩ : ∃ g : Int → Int, ∀ y ∈ l, g y ∈ l ∧ f (g y) = y := by
    refine ⟨fun y => if h : ∃ z, z ∈ l ∧ f z = y then h.choose else 0, fun y hy => ?_⟩
    have h : ∃ z, z ∈ l ∧ f z = y := by
      obtain ⟨z, h1, h2⟩ := on y hy
      exact ⟨z, h1, h2⟩
    show dite _ _ _ ∈ l ∧ f (dite _ _ _) = y
    rw [dif_pos h]
    exact h.choose_spec
  have gm : ∀ i, itr g i x ∈ l := fun i => by
    induction i with
    | zero => exact hx
    | succ i ih => exact (hg _ ih).1
  have fg : ∀ i, itr f i (itr g i x) = x := fun i => by
    induction i with
    | zero => rfl
    | succ i ih =>
      rw [← itr_one]
      show itr f i (f (g (itr g i x))) = x
      rw [(hg _ (gm i)).2]
      exact ih
  obtain ⟨i, j, hij, e⟩ := pigeon (m := m) (fun i => itr g i x) fun i => rg _ (gm i)
  have e2 := fg j
  rw [← show itr g i x = itr g j x from e, show j = (j - i) + i by omega, itr_add, fg i] at e2
  obtain ⟨L, _, h⟩ := per_ex (j - i) (by omega) e2
  exact ⟨L, h⟩
theorem per_prev {f : Int → Int} {L : Nat} {x : Int} (h : Per f L x) : ∃ y, f y = x ∧ (∃ n, itr f n x = y) ∧ ∃ M, Per f M y := by
  obtain ⟨h0, h1, _⟩ := h
  obtain ⟨k, rfl⟩ : ∃ k, L = k + 1 := ⟨L - 1, by omega⟩
  refine ⟨itr f k x, h1, ⟨k, rfl⟩, ?_⟩
  have e : itr f (k + 1) (itr f k x) = itr f k x := by rw [← itr_add, Nat.add_comm, itr_add, h1]
  obtain ⟨M, _, hM⟩ := per_ex (k + 1) (by omega) e
  exact ⟨M, hM⟩
end Tw

/-! All rounds: the dict of lengths, the promises. -/
namespace Tw
open PySem PySem.Spec PyProof.Rows L2
def rdD (ks : List Nat) (c : Nat → Int) : List (Int × Int) := ks.map fun (L : Nat) => ((L : Int), c L)
theorem rdD_len (ks : List Nat) (c : Nat → Int) : (dInts (rdD ks c)).length = ks.length := by
  unfold dInts rdD
  rw [List.length_map, List.length_map]
theorem rdD_congr {ks : List Nat} {c d : Nat → Int} (h : ∀ L ∈ ks, c L = d L) : rdD ks c = rdD ks d := List.map_congr_left fun L hL => by rw [h L hL]
theorem rdD_in {c : Nat → Int} {L : Nat} : ∀ {ks : List Nat}, L ∈ ks → valV (dInts (rdD ks c)) (Sum.inl (L : Int)) = some (.int (c L))
  | k :: ks, h => by
    show valV ((Sum.inl (k : Int), V.int (c k)) :: dInts (rdD ks c)) _ = _
    by_cases e : k = L
    · subst e
      rw [valV_pos rfl]
    · rw [valV_neg (fun z => e (by have := Sum.inl.inj z; omega))]
      exact rdD_in ((List.mem_cons.mp h).resolve_left fun z => e z.symm)
theorem rdD_out {c : Nat → Int} {L : Nat} : ∀ {ks : List Nat}, L ∉ ks → valV (dInts (rdD ks c)) (Sum.inl (L : Int)) = none
  | [], _ => rfl
  | k :: ks, h => by
    show valV ((Sum.inl (k : Int), V.int (c k)) :: dInts (rdD ks c)) _ = _
    rw [valV_neg (fun z => h (by have := Sum.inl.inj z; rw [show L = k by omega]; exact List.mem_cons_self))]
    exact rdD_out fun z => h (List.mem_cons_of_mem _ z)
theorem rdD_put {c : Nat → Int} {L : Nat} {v : Int} {ks : List Nat} (h : L ∈ ks) : putK (dInts (rdD ks c)) (Sum.inl (L : Int)) (.int v) = dInts (rdD ks fun M => if M = L then v else c M) := by
  unfold putK
  rw [valV_any, rdD_in h, if_pos Option.isSome_some]
  unfold dInts rdD
  rw [List.map_map, List.map_map, List.map_map]
  refine List.map_congr_left fun M _ => ?_
  show (if (Sum.inl (M : Int) : Key) = Sum.inl (L : Int) then ((Sum.inl (M : Int) : Key), V.int v) else (Sum.inl (M : Int), V.int (c M))) = (Sum.inl (M : Int), V.int (if M = L then v else c M))
  by_cases e : M = L
  · rw [if_pos (by rw [e]), if_pos e]
  · rw [if_neg (fun z => e (by have := Sum.inl.inj z; omega)), if_neg e]
theorem rdD_add {c : Nat → Int} {L : Nat} {v : Int} {ks : List Nat} (h : L ∉ ks) : putK (dInts (rdD ks c)) (Sum.inl (L : Int)) (.int v) = dInts (rdD (ks ++ [L]) fun M => if M = L then v else c M) := by
  rw [putK_new _ (rdD_out h)]
  have e : rdD (ks ++ [L]) (fun M => if M = L then v else c M) = rdD ks c ++ [((L : Int), v)] := by
    unfold rdD
    rw [List.map_append]
    refine congr (congrArg _ (List.map_congr_left fun M hM => ?_)) ?_
    · have ne : M ≠ L := fun z => h (by rw [← z]; exact hM)
      show ((M : Int), if M = L then v else c M) = ((M : Int), c M)
      rw [if_neg ne]
    · show [((L : Int), if L = L then v else c L)] = _
      rw [if_pos rfl]
  rw [e]
  unfold dInts
  rw [List.map_append]
  rfl
/-- the pairs told -/
def TupP (H : Hp) (q : Addr) (ps : List (Addr × (Int × Int))) : Prop := H q = some (.tup (ps.map fun z => V.ref z.1)) ∧ ∀ z ∈ ps, H z.1 = some (.tup [.int z.2.1, .int z.2.2])
theorem TupP.same {H H' : Hp} {q : Addr} {ps : List (Addr × (Int × Int))} (h : TupP H q ps) (s : Same H H') : TupP H' q ps := ⟨s _ _ h.1, fun z hz => s _ _ (h.2 z hz)⟩
def pAllR (K : PySem.W.Frag) : V → Hp → VK → XK → Prop := fun a H Q _ => ∃ (r : Addr) (t p m : Int), a = .ref r ∧ SqT K H r [.int t, .int p, .int m] ∧ Rule t p m ∧ m ≤ 2000 ∧
  ∀ H' q ps, Same H H' → H q = none → TupP H' q ps → Rds (stp t p m) m (ps.map (·.2)) → Q (.ref q) H'
def dPairs (zs : List (Int × Int)) : PyData := .tuple (zs.map fun z => .tuple [.int z.1, .int z.2])
theorem lay_pairs : ∀ zs : List (Int × Int), PyData.canLayAll0 (zs.map fun z => .tuple [.int z.1, .int z.2]) = true ∧ PyData.depthAll (zs.map fun z => .tuple [.int z.1, .int z.2]) ≤ 1
  | [] => ⟨rfl, by decide⟩
  | z :: zs => by
    obtain ⟨h1, h2⟩ := lay_pairs zs
    constructor
    · show (PyData.canLay0 (.tuple [.int z.1, .int z.2]) && PyData.canLayAll0 (zs.map fun z => .tuple [.int z.1, .int z.2])) = true
      rw [h1]
      rfl
    · show max (PyData.depth (.tuple [.int z.1, .int z.2])) (PyData.depthAll (zs.map fun z => .tuple [.int z.1, .int z.2])) ≤ 1
      have : PyData.depth (.tuple [.int z.1, .int z.2]) = 1 := rfl
      omega
theorem shp_pairs (zs : List (Int × Int)) : SeqAt.shaped (dPairs zs) = true := by
  obtain ⟨h1, h2⟩ := lay_pairs zs
  show (PyData.canLayAll0 (zs.map fun z => .tuple [.int z.1, .int z.2]) && decide (PyData.depthAll (zs.map fun z => .tuple [.int z.1, .int z.2]) + 1 ≤ 64)) = true
  rw [h1, decide_eq_true (by omega)]
  rfl
theorem dp_pairs {K : PySem.W.Frag} {H : Hp} : ∀ ps : List (Addr × (Int × Int)), (∀ z ∈ ps, H z.1 = some (.tup [.int z.2.1, .int z.2.2])) → DpAll K H (ps.map fun z => V.ref z.1) ((ps.map (·.2)).map fun z => PyData.tuple [.int z.1, .int z.2])
  | [], _ => .nil
  | z :: ps, h => .cons (.tup (SqT.of (h z List.mem_cons_self)) (.cons (.int _) (.cons (.int _) .nil))) (dp_pairs ps fun y hy => h y (List.mem_cons_of_mem _ hy))
theorem TupP.dp {K : PySem.W.Frag} {H : Hp} {q : Addr} {ps : List (Addr × (Int × Int))} (h : TupP H q ps) : Dp K H (.ref q) (dPairs (ps.map (·.2))) := .tup (SqT.of h.1) (dp_pairs ps h.2)
/-! ### the program's counting, walk by walk -/
noncomputable def Cws (f : Int → Int) (ws : List Int) (L : Nat) : Int := ((pcnt f ws L / L : Nat) : Int)
structure Cnt (f : Int → Int) (ws : List Int) (ks : List Nat) : Prop where
  nd : ks.Nodup
  mem : ∀ L, L ∈ ks ↔ 0 < pcnt f ws L
theorem per_pos {f : Int → Int} {ws : List Int} {L : Nat} (h : 0 < pcnt f ws L) : 0 < L := by
  obtain ⟨x, _, hx⟩ := pcnt_pos.mp h
  exact hx.1
theorem cws_old {f : Int → Int} {ws vs : List Int} (h : ∀ L, pcnt f vs L = pcnt f ws L) : Cws f vs = Cws f ws := by
  funext L
  unfold Cws
  rw [h L]
theorem Cnt.old {f : Int → Int} {ws vs : List Int} {ks : List Nat} (c : Cnt f ws ks) (h : ∀ L, pcnt f vs L = pcnt f ws L) : Cnt f vs ks := ⟨c.nd, fun L => by rw [h L]; exact c.mem L⟩
theorem cws_new {f : Int → Int} {ws vs : List Int} {c : Nat} (c0 : 0 < c) (h : ∀ L, pcnt f vs L = pcnt f ws L + if L = c then c else 0) : Cws f vs = fun L => if L = c then Cws f ws c + 1 else Cws f ws L := by
  funext L
  show Cws f vs L = if L = c then Cws f ws c + 1 else Cws f ws L
  unfold Cws
  rw [h L]
  by_cases e : L = c
  · subst e
    rw [if_pos rfl, if_pos rfl, Nat.add_div_right _ c0]
    rfl
  · rw [if_neg e, if_neg e, Nat.add_zero]
theorem Cnt.again {f : Int → Int} {ws vs : List Int} {ks : List Nat} {c : Nat} (C : Cnt f ws ks) (hc : c ∈ ks) (h : ∀ L, pcnt f vs L = pcnt f ws L + if L = c then c else 0) : Cnt f vs ks := by
  refine ⟨C.nd, fun L => ?_⟩
  rw [h L]
  by_cases e : L = c
  · subst e
    have := (C.mem L).mp hc
    exact ⟨fun _ => by omega, fun _ => hc⟩
  · rw [if_neg e, Nat.add_zero]
    exact C.mem L
theorem Cnt.more {f : Int → Int} {ws vs : List Int} {ks : List Nat} {c : Nat} (C : Cnt f ws ks) (c0 : 0 < c) (hc : c ∉ ks) (h : ∀ L, pcnt f vs L = pcnt f ws L + if L = c then c else 0) : Cnt f vs (ks ++ [c]) := by
  refine ⟨?_, fun L => ?_⟩
  · rw [List.nodup_append]
    refine ⟨C.nd, by simp, fun a ha b hb e => ?_⟩
    rw [List.mem_singleton] at hb
    exact hc (by rw [← hb, ← e]; exact ha)
  · rw [h L, List.mem_append, List.mem_singleton]
    by_cases e : L = c
    · subst e
      rw [if_pos rfl]
      exact ⟨fun _ => by omega, fun _ => .inr rfl⟩
    · rw [if_neg e, Nat.add_zero, ← C.mem L]
      exact ⟨fun z => z.resolve_right e, .inl⟩
theorem cws_none {f : Int → Int} {ws : List Int} {ks : List Nat} {c : Nat} (C : Cnt f ws ks) (hc : c ∉ ks) : Cws f ws c = 0 := by
  have : pcnt f ws c = 0 := by
    have := mt (C.mem c).mpr hc
    omega
  unfold Cws
  rw [this, Nat.zero_div]
  rfl
/-- the sorted items are the rounds -/
theorem Cnt.rds {f : Int → Int} {m : Int} {ws : List Int} {ks : List Nat} {zs : List (Int × Int)} (C : Cnt f ws ks) (all : ∀ L, pcnt f ws L = Nper f m L) (pm : zs.Perm (rdD ks (Cws f ws))) (up : zs.Pairwise fun y z => SrtO.lexB z y = false) : Rds f m zs := by
  have nd : (zs.map (·.1)).Nodup := by
    have e := pm.map (·.1)
    refine e.nodup_iff.mpr ?_
    unfold rdD
    rw [List.map_map, List.nodup_iff_pairwise_ne, List.pairwise_map]
    have n := C.nd
    rw [List.nodup_iff_pairwise_ne] at n
    exact n.imp fun {a b} h z => h (by have : (a : Int) = (b : Int) := z; omega)
  refine ⟨?_, fun L c => ?_⟩
  · rw [List.nodup_iff_pairwise_ne, List.pairwise_map] at nd
    exact (up.and nd).imp fun {a b} z => by
      have z1 := SrtO.lexB_no.mp z.1
      have z2 := z.2
      omega
  · rw [pm.mem_iff]
    unfold rdD
    rw [List.mem_map]
    constructor
    · rintro ⟨M, hM, e⟩
      obtain ⟨rfl, rfl⟩ := Prod.mk.inj e
      refine ⟨M, rfl, by rw [← all M]; exact (C.mem M).mp hM, ?_⟩
      unfold Cws Crnd
      rw [all M]
    · rintro ⟨M, rfl, h, rfl⟩
      refine ⟨M, (C.mem M).mpr (by rw [all M]; exact h), ?_⟩
      unfold Cws Crnd
      rw [all M]
end Tw
namespace Tw
open PySem PySem.Spec PyProof.Rows L2
theorem orb_get (f : Int → Int) {n i : Nat} (x : Int) (h : i < n) : (orb f n x)[i]? = some (itr f i x) := by
  unfold orb
  rw [List.getElem?_map, List.getElem?_range h]
  rfl
theorem orb_idx {f : Int → Int} {n : Nat} {x y : Int} (h : y ∈ orb f n x) : (orb f n x).idxOf y < n ∧ itr f ((orb f n x).idxOf y) x = y := by
  have hl := List.idxOf_lt_length_of_mem h
  have e := List.getElem_idxOf hl
  rw [orb_len] at hl
  refine ⟨hl, ?_⟩
  have e2 := orb_get f x hl
  rw [List.getElem?_eq_getElem (by rw [orb_len]; exact hl), e] at e2
  exact (Option.some.inj e2).symm
theorem cnt_nil (f : Int → Int) : Cnt f [] [] := ⟨List.nodup_nil, fun L => by
  constructor
  · intro h; cases h
  · intro h
    obtain ⟨x, hx, _⟩ := pcnt_pos.mp h
    cases hx⟩
end Tw

/-! Rounds by taking away what is no next one; the law's counting. -/
namespace Tw
open PySem PySem.Spec PyProof.Rows L2
theorem sub_len : ∀ {l k : List Int}, l.Nodup → (∀ x ∈ l, x ∈ k) → l.length ≤ k.length
  | [], k, _, _ => Nat.zero_le _
  | a :: l, k, nd, h => by
    rw [List.nodup_cons] at nd
    have ha := h a List.mem_cons_self
    have ih := sub_len (k := k.erase a) nd.2 fun x hx => (List.mem_erase_of_ne (fun e => nd.1 (by rw [← e]; exact hx))).mpr (h x (List.mem_cons_of_mem _ hx))
    rw [List.length_erase_of_mem ha] at ih
    have := List.length_pos_of_mem ha
    show l.length + 1 ≤ k.length
    omega
theorem sub_eq {l k : List Int} (nl : l.Nodup) (h : ∀ x ∈ l, x ∈ k) (e : l.length = k.length) {x : Int} (hx : x ∈ k) : x ∈ l := by
  refine Classical.byContradiction fun c => ?_
  have := sub_len (l := x :: l) (k := k) (List.nodup_cons.mpr ⟨c, nl⟩) fun y hy => by
    rcases List.mem_cons.mp hy with e | e
    · rw [e]; exact hx
    · exact h y e
  have e2 : (x :: l).length = l.length + 1 := rfl
  omega
theorem up_nodup {l : List Int} (h : l.Pairwise (· < ·)) : l.Nodup := by
  rw [List.nodup_iff_pairwise_ne]
  exact h.imp fun {a b} z => by omega
structure LI (f : Int → Int) (m : Int) (left : List Int) (mn : Int) : Prop where
  up : left.Pairwise (· < ·)
  rg : Rng m left
  per : ∀ x, 0 ≤ x → x < m → (∃ L, Per f L x) → x ∈ left
  cl : Fcl f left
  on : mn = left.length → ∀ y ∈ left, ∃ z ∈ left, f z = y
theorem LI.step {f : Int → Int} {m : Int} {left out : List Int} {mn : Int} (fr : ∀ x, 0 ≤ f x ∧ f x < m) (h : LI f m left mn) (up : out.Pairwise (· < ·)) (mem : ∀ k, k ∈ out ↔ k ∈ left.map f) : LI f m out left.length ∧ out.length ≤ left.length := by
  have sub : ∀ x ∈ out, x ∈ left := fun x hx => by
    obtain ⟨y, hy, rfl⟩ := List.mem_map.mp ((mem x).mp hx)
    exact h.cl y hy
  refine ⟨⟨up, fun x hx => h.rg x (sub x hx), fun x x0 x1 hp => ?_, fun x hx => ?_, fun e y hy => ?_⟩, sub_len (up_nodup up) sub⟩
  · obtain ⟨L, hL⟩ := hp
    obtain ⟨y, e1, ⟨n, e2⟩, hM⟩ := per_prev hL
    refine (mem x).mpr (List.mem_map.mpr ⟨y, ?_, e1⟩)
    have yr : 0 ≤ y ∧ y < m := by
      rw [← e2]
      cases n with
      | zero => exact ⟨x0, x1⟩
      | succ n => exact fr _
    exact h.per y yr.1 yr.2 hM
  · exact (mem _).mpr (List.mem_map.mpr ⟨x, sub x hx, rfl⟩)
  · obtain ⟨z, hz, e2⟩ := List.mem_map.mp ((mem y).mp hy)
    exact ⟨z, sub_eq (up_nodup up) sub (by omega) hz, e2⟩
theorem LI.first {f : Int → Int} {m : Int} (fr : ∀ x, 0 ≤ f x ∧ f x < m) : LI f m (alls m) (-1) := by
  refine ⟨?_, fun x hx => alls_mem.mp hx, fun x x0 x1 _ => alls_mem.mpr ⟨x0, x1⟩, fun x _ => alls_mem.mpr (fr x), fun e => by omega⟩
  unfold alls
  rw [List.pairwise_map]
  exact (List.pairwise_lt_range (n := m.toNat)).imp fun {a b} h => by omega
theorem rg_alls (m : Int) : rgV 0 m = (alls m).map V.int := by
  unfold rgV alls
  rw [List.map_map, show (m - 0).toNat = m.toNat by omega]
  refine List.map_congr_left fun i _ => ?_
  show V.int (0 + (i : Int)) = V.int (i : Int)
  rw [Int.zero_add]
theorem alls_len (m : Int) : (alls m).length = m.toNat := by
  unfold alls
  rw [List.length_map, List.length_range]
/-! ### going round in what is left -/
structure LenI (f : Int → Int) (ws ls : List Int) : Prop where
  pos : ∀ x ∈ ls, 0 < x
  cnt : ∀ L : Nat, ls.count (L : Int) * L = pcnt f ws L
theorem LenI.nil (f : Int → Int) : LenI f [] [] := ⟨fun x hx => absurd hx (by simp), fun L => Nat.zero_mul L⟩
theorem LenI.new {f : Int → Int} {ws vs ls : List Int} {c : Nat} (h : LenI f ws ls) (c0 : 0 < c) (e : ∀ L, pcnt f vs L = pcnt f ws L + if L = c then c else 0) : LenI f vs (ls ++ [(c : Int)]) := by
  refine ⟨fun x hx => ?_, fun L => ?_⟩
  · rcases List.mem_append.mp hx with hx | hx
    · exact h.pos x hx
    · rw [List.mem_singleton.mp hx]
      omega
  · rw [e L, ← h.cnt L, List.count_append, Nat.add_mul]
    refine congrArg (ls.count (L : Int) * L + ·) ?_
    by_cases z : L = c
    · subst z
      rw [if_pos rfl, List.count_singleton_self, Nat.one_mul]
    · rw [if_neg z, List.count_eq_zero_of_not_mem (fun y => z (by have := List.mem_singleton.mp y; omega)), Nat.zero_mul]
theorem walk_whole {f : Int → Int} {ws : List Int} {n : Nat} {x : Int} (nd : (ws ++ orb f n x).Nodup) (fc : Fcl f ws) (hp : ∃ L, Per f L x) (n0 : 0 < n) (hy : itr f n x ∈ ws ++ orb f n x) (L : Nat) : pcnt f (ws ++ orb f n x) L = pcnt f ws L + if L = n then n else 0 := by
  obtain ⟨M, hM⟩ := hp
  rcases List.mem_append.mp hy with h | h
  · exact absurd hM (walk_old nd fc h n0 M)
  · obtain ⟨i, hi, e⟩ := orb_mem.mp h
    cases i with
    | zero => exact pcnt_new nd n0 e.symm L
    | succ i => exact absurd hM (walk_tail nd hi e.symm (Nat.succ_pos i) M)
theorem LenI.rds {f : Int → Int} {m : Int} {ws ls out : List Int} (h : LenI f ws ls) (all : ∀ L, pcnt f ws L = Nper f m L) (up : out.Pairwise (· < ·)) (mem : ∀ k, k ∈ out ↔ k ∈ ls) : Rds f m (out.map fun k => (k, ((ls.count k : Nat) : Int))) := by
  refine ⟨?_, fun L c => ?_⟩
  · rw [List.pairwise_map]
    exact up
  · rw [List.mem_map]
    have key : ∀ n : Nat, 0 < n → ((ls.count (n : Int) : Nat) : Int) = Crnd f m n := fun n n0 => by
      unfold Crnd
      rw [← all n, ← h.cnt n, Nat.mul_div_cancel _ n0]
    constructor
    · rintro ⟨k, hk, e⟩
      obtain ⟨rfl, rfl⟩ := Prod.mk.inj e
      have hl := (mem k).mp hk
      have k0 := h.pos k hl
      obtain ⟨n, rfl⟩ := Int.eq_ofNat_of_zero_le (show 0 ≤ k by omega)
      have n0 : 0 < n := by omega
      refine ⟨n, rfl, ?_, key n n0⟩
      rw [← all n, ← h.cnt n]
      exact Nat.mul_pos (List.count_pos_iff.mpr hl) n0
    · rintro ⟨n, rfl, hn, rfl⟩
      have hn2 := hn
      rw [← all n, ← h.cnt n] at hn
      have n0 : 0 < n := Nat.pos_of_mul_pos_left hn
      have c0 : 0 < ls.count (n : Int) := Nat.pos_of_mul_pos_right hn
      exact ⟨n, (mem _).mpr (List.count_pos_iff.mp c0), by rw [key n n0]⟩
/-! ### some rules of small bounds -/
theorem nper_g {f : Int → Int} {m : Int} (g : Int → Nat) (h : ∀ x ∈ alls m, Per f (g x) x) (L : Nat) : Nper f m L = (alls m).countP fun x => decide (g x = L) := by
  unfold Nper pcnt
  refine List.countP_congr fun x hx => ?_
  simp only [decide_eq_true_eq]
  exact ⟨fun z => per_uniq (h x hx) z, fun z => by rw [← z]; exact h x hx⟩
theorem rds_001 : Rds (stp 0 0 1) 1 [(1, 1)] := by
  have e : ∀ L, Nper (stp 0 0 1) 1 L = if L = 1 then 1 else 0 := fun L => by
    rw [nper_g (fun _ => 1) (by unfold Per; decide) L, show alls 1 = [0] by decide]
    by_cases c : L = 1
    · subst c; rfl
    · rw [if_neg c, List.countP_eq_zero]
      intro x _
      simp only [decide_eq_true_eq]
      exact fun z => c z.symm
  refine ⟨by simp, fun L c => ?_⟩
  constructor
  · intro h
    obtain ⟨rfl, rfl⟩ := Prod.mk.inj (List.mem_singleton.mp h)
    refine ⟨1, rfl, by rw [e]; decide, ?_⟩
    unfold Crnd
    rw [e]
    rfl
  · rintro ⟨n, rfl, h, rfl⟩
    rw [e] at h
    by_cases c : n = 1
    · subst c
      unfold Crnd
      rw [e]
      exact List.mem_singleton.mpr rfl
    · rw [if_neg c] at h
      omega
theorem rds_106 : Rds (stp 1 0 6) 6 [(1, 6)] := by
  have e : ∀ L, Nper (stp 1 0 6) 6 L = if L = 1 then 6 else 0 := fun L => by
    rw [nper_g (fun _ => 1) (by unfold Per; decide) L]
    by_cases c : L = 1
    · subst c; rfl
    · rw [if_neg c, List.countP_eq_zero]
      intro x _
      simp only [decide_eq_true_eq]
      exact fun z => c z.symm
  refine ⟨by simp, fun L c => ?_⟩
  constructor
  · intro h
    obtain ⟨rfl, rfl⟩ := Prod.mk.inj (List.mem_singleton.mp h)
    refine ⟨1, rfl, by rw [e]; decide, ?_⟩
    unfold Crnd
    rw [e]
    rfl
  · rintro ⟨n, rfl, h, rfl⟩
    rw [e] at h
    by_cases c : n = 1
    · subst c
      unfold Crnd
      rw [e]
      exact List.mem_singleton.mpr rfl
    · rw [if_neg c] at h
      omega
theorem rds_205 : Rds (stp 2 0 5) 5 [(1, 1), (4, 1)] := by
  have e : ∀ L, Nper (stp 2 0 5) 5 L = (if L = 1 then 1 else 0) + if L = 4 then 4 else 0 := fun L => by
    rw [nper_g (fun x => if x = 0 then 1 else 4) (by unfold Per; decide) L, show alls 5 = [0, 1, 2, 3, 4] by decide]
    by_cases c : L = 1
    · subst c; rfl
    · by_cases d : L = 4
      · subst d; rfl
      · rw [if_neg c, if_neg d, List.countP_eq_zero.mpr]
        intro x _
        simp only [decide_eq_true_eq]
        intro z
        by_cases x0 : x = 0
        · rw [if_pos x0] at z; exact c z.symm
        · rw [if_neg x0] at z; exact d z.symm
  refine ⟨by simp, fun L c => ?_⟩
  constructor
  · intro h
    rcases List.mem_cons.mp h with h | h
    · obtain ⟨rfl, rfl⟩ := Prod.mk.inj h
      refine ⟨1, rfl, by rw [e]; decide, ?_⟩
      unfold Crnd
      rw [e]
      rfl
    · obtain ⟨rfl, rfl⟩ := Prod.mk.inj (List.mem_singleton.mp h)
      refine ⟨4, rfl, by rw [e]; decide, ?_⟩
      unfold Crnd
      rw [e]
      rfl
  · rintro ⟨n, rfl, h, rfl⟩
    rw [e] at h
    by_cases c : n = 1
    · subst c
      unfold Crnd
      rw [e]
      exact List.mem_cons_self
    · by_cases d : n = 4
      · subst d
        unfold Crnd
        rw [e]
        exact List.mem_cons_of_mem _ (List.mem_singleton.mpr rfl)
      · rw [if_neg c, if_neg d] at h
        omega
end Tw
namespace Tw
open PySem PySem.Spec PyProof.Rows L2
/-- a method within a comprehension: the fragment is named -/
theorem bm_in {X : Cx} {K : PySem.W.Frag} {a b : Expr} {bs : List Expr} {ta : TE} {tb : TA} {nm : Str} {p1 p2 : Pos} {T i : String} {r : V → List V → Hp → VK → Prop} (hK : X.K = K) (h1 : PlainAttrs T) (h2 : Slot T nm i) (h3 : typeOf (.builtin i) = pure (.type "method_descriptor")) (h4 : MtR X i r) (h5 : PE X a ta) (h6 : PA X (b :: bs) tb)
    (k1 : attributeBase a nm X.env (eval a X.env) = eval a X.env := by rfl)
    (k2 : ((backTo p2 (starEach (b :: bs) X.env)).all (fun x => !x.1) && (backToKw p2 (keywordEach [] X.env)).all (fun x => x.1.isSome) && decide ((b :: bs).length + ([] : List Keyword).length + (if ([] : List Keyword).isEmpty then 0 else 1) < 30)) = true := by rfl)
    (k3 : (p1.endLine == p2.line) = true := by rfl) (k4 : starEach (b :: bs) X.env = (false, eval b X.env) :: starEach bs X.env := by rfl) (k5 : (backTo p2 (starEach bs X.env)).any (·.1) = false := by rfl) : PE X (.Call (.Attribute a nm p1) (b :: bs) [] p2) (tBM K T r ta tb) := by
  subst hK
  exact pe_bm h1 h2 h3 h4 h5 h6 k1 k2 k3 k4 k5
end Tw
namespace Tw
open PySem PySem.Spec PyProof.Rows L2
theorem yesT {σ : L2.St} {H : Hp} {A B : Hp → Prop} (h : A H) : tYes σ H fun b H3 => if b = true then A H3 else B H3 := by
  show if true = true then A H else B H
  rw [if_pos rfl]
  exact h
end Tw


namespace Tw
open PySem PySem.Spec PyProof.Rows L2
def topS (i : Nat) : Stmt := PySem.Challenge.pw_timesrow_k07_all_rounds.main.body.getD i (.Pass ⟨0, 0, 0, 0⟩)
abbrev s_mix : Stmt := topS 13
theorem sc_mix : FnScope ["cell", "k", "number"] ["cell", "k"] (defScope s_mix) := ⟨rfl, rfl, rfl, by decide +kernel, rfl, by decide +kernel, by decide +kernel⟩
abbrev s_deck : Stmt := topS 14
theorem sc_deck : FnScope ["script"] ["script"] (defScope s_deck) := ⟨rfl, rfl, rfl, by decide +kernel, rfl, by decide +kernel, by decide +kernel⟩
abbrev s_next : Stmt := topS 15
theorem sc_next : FnScope ["deck", "many", "cell", "found"] ["deck", "many"] (defScope s_next) := ⟨rfl, rfl, rfl, by decide +kernel, rfl, by decide +kernel, by decide +kernel⟩
abbrev s_great : Stmt := topS 16
theorem sc_great : FnScope ["deck", "most"] ["deck", "most"] (defScope s_great) := ⟨rfl, rfl, rfl, by decide +kernel, rfl, by decide +kernel, by decide +kernel⟩
section
variable {P : Program} {w : World} {K : PySem.W.Frag} {mg : Str → Option Value} {base : Heap}
theorem ok_mix (D : Top K mg "_law_mix" s_mix ["cell", "k"]) : Has P w K mg base CX0 1 "_law_mix" ["cell", "k"] (sp2 pMix) := by
  refine D.ok2 sc_mix (fun f cdv A outer s H v1 v2 Q E hr h => ?_)
  obtain ⟨c, k, rfl, rfl, k0, k1, q⟩ := h
  refine ⟨_, (pss_cons (ps_set (i := 2) sc_mix.nd rfl (.inl rfl) (pe_op op_add (pe_op op_mod (pv 0) pe_int) (pe_op op_mulB (pe_op op_mulB pe_int (pv 1)) (pv 1))))
 (pss_cons (ps_set (i := 2) sc_mix.nd rfl (.inl rfl) (pe_op op_mod (pe_op op_add (pv 2) (pe_op op_mulB pe_int (pv 1))) pe_int))
 (pss_cons (ps_set (i := 2) sc_mix.nd rfl (.inl rfl) (pe_op op_mod (pe_op op_mulB (pv 2) (pv 2)) pe_int))
 (pss_one (ps_ret (pe_op op_fdivB (pe_op op_mod (pe_op op_mulB (pv 2) (pe_op op_add (pv 2) pe_int)) pe_int) pe_int)))))), ?_⟩
  have b1 := mod_bd c (b := 2147483629) (by decide)
  have m1 := mul_bd k0 (show k ≤ 1000000000 by omega) k0 (show k ≤ 1000000000 by omega)
  refine ⟨_, rfl, _, _, rfl, rfl, by show (0:Int) < _; decide, _, rfl, _, _, rfl, rfl, ⟨by unfold Big; omega, by unfold Big; omega⟩, _, rfl, _, _, rfl, rfl, ⟨by unfold Big; omega, by unfold Big; omega⟩, _, _, rfl, rfl, ?_⟩
  refine ⟨_, rfl, _, rfl, _, _, rfl, rfl, ⟨by unfold Big; omega, by unfold Big; omega⟩, _, _, rfl, rfl, _, _, rfl, rfl, by show (0:Int) < _; decide, ?_⟩
  generalize c % 2147483629 + 1000003 * k * k + 7919 * k = z1
  have b2 := mod_bd z1 (b := 2147483629) (by decide)
  refine ⟨_, rfl, _, rfl, _, _, rfl, rfl, ⟨by unfold Big; omega, by unfold Big; omega⟩, _, _, rfl, rfl, by show (0:Int) < _; decide, ?_⟩
  generalize z1 % 2147483629 * (z1 % 2147483629) = z2
  have b3 := mod_bd z2 (b := 2147483587) (by decide)
  refine ⟨_, rfl, _, rfl, _, _, rfl, rfl, _, _, rfl, rfl, ⟨by unfold Big; omega, by unfold Big; omega⟩, _, _, rfl, rfl, by show (0:Int) < _; decide, _, _, rfl, rfl, ⟨by decide, by decide⟩, ?_⟩
  generalize z2 % 2147483587 * (z2 % 2147483587 + 40961) = z3
  have b4 := mod_bd z3 (b := 2147483563) (by decide)
  exact q _ (by omega)
theorem ok_deck (D : Top K mg "_law_deck" s_deck ["script"]) (z_sum : mg "sum" = none) : Has P w K mg base CX0 1 "_law_deck" ["script"] (sp1 (pDeck K)) := by
  refine D.ok1 sc_deck (fun f cdv A outer s H v1 Q E hr h => ?_)
  obtain ⟨sa, xs, rfl, hS, q⟩ := h
  refine ⟨_, (pss_one (ps_ret (pe_lst (pa_cons (pe_slice sl_list (pv 0) po_none (po_some pe_int)) (pa_cons pe_int (pa_cons pe_int (pa_cons pe_int (pa_cons (pe_callB (id := "sum") (cr_sum rfl) (by rfl) z_sum (by decide +kernel) (pa_cons (pe_slice sl_list (pv 0) po_none (po_some pe_int)) pa_nil)) pa_nil)))))))), ?_⟩
  have ec : cutV (xs.map V.int) none (some 63) = (xs.take 63).map V.int := by
    rw [List.map_take]
    exact cut_take _ 63
  refine ⟨_, rfl, _, rfl, sa, _, rfl, hS, fun c nc => ?_⟩
  have s1 := same_new (o := .lst (cutV (xs.map V.int) none (some 63))) nc
  refine ⟨_, rfl, _, rfl, sa, _, rfl, s1.seq hS, fun c2 nc2 => ?_⟩
  have s2 := same_new (o := .lst (cutV (xs.map V.int) none (some 63))) nc2
  refine ⟨c2, xs.take 63, rfl, ?_, ?_⟩
  · rw [ec]
    exact SqL.of upd_same
  · refine ⟨by show 5 ≤ sizeLine; decide, fun d nd => ?_⟩
    have s3 := same_new (o := .lst [.ref c, .int 0, .int 0, .int 0, .int (xs.take 63).sum]) nd
    have hc : (upd (upd H c (.lst (cutV (xs.map V.int) none (some 63)))) c2 (.lst (cutV (xs.map V.int) none (some 63)))) c = some (.lst ((xs.take 63).map V.int)) := by
      rw [← ec]
      exact s2 _ _ upd_same
    refine q _ d (s1.trans (s2.trans s3)) (s1.free (s2.free nd)) ⟨c, xs.take 63, 0, 0, 0, (xs.take 63).sum, upd_same, s3 _ _ hc, ne_of_none hc nd, ?_, by omega, by omega, by omega, by omega, by omega⟩
    rw [List.length_take]
    omega
theorem ok_next (D : Top K mg "_law_next" s_next ["deck", "many"]) (h_mix : Has P w K mg base CX0 1 "_law_mix" ["cell", "k"] (sp2 pMix)) (z_len : mg "len" = none) : Has P w K mg base CX0 2 "_law_next" ["deck", "many"] (sp2 (pNext 1)) := by
  refine D.ok2 sc_next (fun f cdv A outer s H v1 v2 Q E hr h => ?_)
  obtain ⟨d, n, m, rfl, rfl, m0, m1, hD, hn, q⟩ := h
  refine ⟨_, (C8.pss_cut (ps_if (PW.pt (pw_and (pt_cmpR op_eq (pe_ix ix_list (pv 0) pe_int (fun _ _ => rfl)) pe_int (nomark _)) (pw_and1 (pt_cmpR op_lt (pe_ix ix_list (pv 0) pe_int (fun _ _ => rfl)) (pe_callB (id := "len") call_len_seq (by rfl) z_len (by decide +kernel) (pa_cons (pe_ix ix_list (pv 0) pe_int (fun _ _ => rfl)) pa_nil)) (nomark _))))) (pss_cons (ps_set (i := 2) sc_next.nd rfl (.inl rfl) (pe_ix ix_list (pe_ix ix_list (pv 0) pe_int (fun _ _ => rfl)) (pe_ix ix_list (pv 0) pe_int (fun _ _ => rfl)) (fun _ _ => rfl)))
 (pss_cons (ps_asg (pe_op op_add (pe_ix ix_list (pv 0) pe_int (fun _ _ => rfl)) pe_int) (pg_sub (pv 0) pe_int set_list))
 (pss_cons (ps_if (pt_cmpR op_lt (pv 2) (pe_op op_pow pe_int pe_int) (nomark _)) (pss_one (ps_ret (pe_op op_mod (pe_own h_mix (hr.mono (by decide)) pass0 (pa_cons (pv 2) (pa_cons (pe_ix ix_list (pv 0) pe_int (fun _ _ => rfl)) pa_nil))) (pv 1)))) pss_nil)
 (pss_one (ps_asg (pv 2) (pg_sub (pv 0) pe_int set_list)))))) pss_nil)
 (pss_cons (ps_if (pt_cmpR op_gt (pe_ix ix_list (pv 0) pe_int (fun _ _ => rfl)) pe_int (nomark _)) (pss_cons (ps_set (i := 3) sc_next.nd rfl (.inl rfl) (pe_op op_mod (pe_ix ix_list (pv 0) pe_int (fun _ _ => rfl)) (pv 1)))
 (pss_cons (ps_asg (pe_op op_fdivB (pe_ix ix_list (pv 0) pe_int (fun _ _ => rfl)) (pv 1)) (pg_sub (pv 0) pe_int set_list))
 (pss_one (ps_ret (pv 3))))) pss_nil)
 (pss_cons (ps_asg (pe_op op_add (pe_ix ix_list (pv 0) pe_int (fun _ _ => rfl)) pe_int) (pg_sub (pv 0) pe_int set_list))
 (pss_one (ps_ret (pe_op op_mod (pe_own h_mix (hr.mono (by decide)) pass0 (pa_cons (pe_ix ix_list (pv 0) pe_int (fun _ _ => rfl)) (pa_cons (pe_op op_add (pe_ix ix_list (pv 0) pe_int (fun _ _ => rfl)) pe_int) pa_nil))) (pv 1))))))), ?_⟩
  obtain ⟨c, xs, i, r, k, t, hd, hc, ncd, hx, i0, i1, r0, k0, k1⟩ := hD
  -- what follows the first if: the deck with its own i and r
  refine ⟨fun σ' H' => ∃ (y : Option V) (i' r' : Int), σ' = [some (.ref d), some (.int m), y, none] ∧ H' = upd H d (.lst [.ref c, .int i', .int r', .int k, .int t]) ∧ 0 ≤ i' ∧ i' ≤ (xs.length : Int) ∧ 0 ≤ r', ?_, ?_⟩
  · have self : upd H d (.lst [.ref c, .int i, .int r, .int k, .int t]) = H := by
      funext b
      by_cases e : b = d
      · rw [e, upd_same, hd]
      · rw [upd_ne e]
    refine ⟨_, rfl, d, _, 2, .int r, rfl, rfl, SqL.of hd, rfl, rfl, _, rfl, ifI (fun er => ?_) (fun er => ?_)⟩
    · refine ⟨_, rfl, d, _, 1, .int i, rfl, rfl, SqL.of hd, rfl, _, rfl, d, _, 0, .ref c, rfl, rfl, SqL.of hd, rfl, c, _, rfl, .inl (SqL.of hc), _, _, rfl, rfl, _, rfl, ifD (fun il => ?_) (fun il => ?_)⟩
      · rw [List.length_map] at il
        obtain ⟨j, rfl⟩ := Int.eq_ofNat_of_zero_le i0
        have jl : j < xs.length := by omega
        have ej : (xs.map V.int)[j]? = some (.int xs[j]) := by rw [List.getElem?_map, List.getElem?_eq_getElem jl]; rfl
        refine ⟨_, rfl, d, _, 0, .ref c, rfl, rfl, SqL.of hd, rfl, _, rfl, d, _, 1, .int (j : Int), rfl, rfl, SqL.of hd, rfl, c, _, _, _, rfl, rfl, SqL.of hc, atI_nat ej, ?_⟩
        refine ⟨_, rfl, d, _, 1, .int (j : Int), rfl, rfl, SqL.of hd, rfl, _, _, rfl, rfl, _, rfl, d, _, 1, 1, rfl, rfl, hd, rfl, ?_⟩
        refine ⟨_, rfl, _, _, rfl, rfl, ⟨by decide, by decide, by decide⟩, _, _, rfl, rfl, _, rfl, ifD (fun cl => ?_) (fun cl => ?_)⟩
        · refine ⟨_, rfl, _, rfl, d, _, 1, .int ((j : Int) + 1), rfl, rfl, SqL.of upd_same, rfl, _, _, rfl, _, _, rfl, rfl, by omega, by omega, fun v v0 => ?_⟩
          refine ⟨_, rfl, _, _, rfl, rfl, m0, ?_⟩
          have bv := mod_bd v m0
          refine q _ _ (but_mut (But.refl d H) (fun c' hc => by obtain ⟨_, ec⟩ := hc; rw [hd] at ec; cases ec; exact ⟨_, rfl⟩)) ⟨c, xs, (j : Int) + 1, r, k, t, upd_same, ?_, ncd, hx, by omega, by omega, r0, k0, by omega⟩ bv.1 bv.2
          rw [upd_ne ncd]
          exact hc
        · refine ⟨_, rfl, _, rfl, d, _, 2, 2, rfl, rfl, upd_same, rfl, some (.int xs[j]), (j : Int) + 1, xs[j], rfl, ?_, by omega, by omega, ?_⟩
          · rw [upd_upd]
            rfl
          · have z : (10 : Int) ^ (18 : Int).toNat = 1000000000000000000 := by decide
            rw [z] at cl
            omega
      · exact ⟨none, i, r, rfl, self.symm, i0, i1, r0⟩
    · exact ⟨none, i, r, rfl, self.symm, i0, i1, r0⟩
  · rintro σ' H' ⟨y, i', r', rfl, rfl, i0', i1', r0'⟩
    refine ⟨_, rfl, d, _, 2, .int r', rfl, rfl, SqL.of upd_same, rfl, _, _, rfl, rfl, _, rfl, ifD (fun rp => ?_) (fun rp => ?_)⟩
    · refine ⟨_, rfl, d, _, 2, .int r', rfl, rfl, SqL.of upd_same, rfl, _, rfl, _, _, rfl, rfl, m0, ?_⟩
      refine ⟨_, rfl, d, _, 2, .int r', rfl, rfl, SqL.of upd_same, rfl, _, rfl, _, _, rfl, rfl, ⟨m0, m1⟩, _, rfl, d, _, 2, 2, rfl, rfl, upd_same, rfl, ?_⟩
      have bv := mod_bd r' m0
      refine ⟨_, rfl, q _ _ (but_mut (but_mut (But.refl d H) (fun c' hc => by obtain ⟨_, ec⟩ := hc; rw [hd] at ec; cases ec; exact ⟨_, rfl⟩)) (fun c' hc => by obtain ⟨_, ec⟩ := hc; rw [upd_same] at ec; cases ec; exact ⟨_, rfl⟩)) ⟨c, xs, i', r' / m, k, t, upd_same, ?_, ncd, hx, i0', i1', Int.ediv_nonneg r0' (by omega), k0, by omega⟩ bv.1 bv.2⟩
      rw [upd_ne ncd, upd_ne ncd]
      exact hc
    · refine ⟨_, rfl, d, _, 3, .int k, rfl, rfl, SqL.of upd_same, rfl, _, _, rfl, rfl, _, rfl, d, _, 3, 3, rfl, rfl, upd_same, rfl, ?_⟩
      refine ⟨_, rfl, d, _, 4, .int t, rfl, rfl, SqL.of upd_same, rfl, _, rfl, d, _, 3, .int (k + 1), rfl, rfl, SqL.of upd_same, rfl, _, _, rfl, rfl, _, _, rfl, _, _, rfl, rfl, by omega, by omega, fun v v0 => ?_⟩
      refine ⟨_, rfl, _, _, rfl, rfl, m0, ?_⟩
      have bv := mod_bd v m0
      refine q _ _ (but_mut (but_mut (But.refl d H) (fun c' hc => by obtain ⟨_, ec⟩ := hc; rw [hd] at ec; cases ec; exact ⟨_, rfl⟩)) (fun c' hc => by obtain ⟨_, ec⟩ := hc; rw [upd_same] at ec; cases ec; exact ⟨_, rfl⟩)) ⟨c, xs, i', r', k + 1, t, upd_same, ?_, ncd, hx, i0', i1', r0', by omega, by omega⟩ bv.1 bv.2
      rw [upd_ne ncd, upd_ne ncd]
      exact hc
theorem ok_great (D : Top K mg "_law_great" s_great ["deck", "most"]) (h_next : Has P w K mg base CX0 2 "_law_next" ["deck", "many"] (sp2 (pNext 1))) : Has P w K mg base CX0 3 "_law_great" ["deck", "most"] (sp2 (pNext 2)) := by
  refine D.ok2 sc_great (fun f cdv A outer s H v1 v2 Q E hr h => ?_)
  obtain ⟨d, n, m, rfl, rfl, m0, m1, hD, hn, q⟩ := h
  refine ⟨_, (pss_one (ps_ret (pe_op op_mod (pe_op op_add (pe_op op_mulB (pe_own h_next (hr.mono (by decide)) pass0 (pa_cons (pv 0) (pa_cons (pe_op op_pow pe_int pe_int) pa_nil))) (pe_op op_pow pe_int pe_int)) (pe_own h_next (hr.mono (by decide)) pass0 (pa_cons (pv 0) (pa_cons (pe_op op_pow pe_int pe_int) pa_nil)))) (pv 1)))), ?_⟩
  have z : (10 : Int) ^ (6 : Int).toNat = 1000000 := by decide
  refine ⟨_, rfl, _, _, rfl, rfl, ⟨by decide, by decide, by decide⟩, _, _, rfl, d, n, _, rfl, rfl, by decide, by decide, hD, by omega, fun H1 v B1 D1 v0 v1 => ?_⟩
  rw [z] at v1
  refine ⟨_, _, rfl, rfl, ⟨by decide, by decide, by decide⟩, _, _, rfl, rfl, ⟨by unfold Big; omega, show Big 1000000 from ⟨by decide, by decide⟩⟩, ?_⟩
  refine ⟨_, rfl, _, _, rfl, rfl, ⟨by decide, by decide, by decide⟩, _, _, rfl, d, n + 1, _, rfl, rfl, by decide, by decide, D1, by omega, fun H2 u B2 D2 u0 u1 => ?_⟩
  refine ⟨_, _, rfl, rfl, _, rfl, _, _, rfl, rfl, m0, ?_⟩
  have bv := mod_bd (v * 10 ^ (6 : Int).toNat + u) m0
  exact q _ _ (B1.trans B2) D2 bv.1 bv.2
end
end Tw


namespace Tw
open PySem PySem.Spec PyProof.Rows L2
abbrev s_bound : Stmt := topS 17
theorem sc_bound : FnScope ["deck", "most", "way", "found", "k", "prime", "some"] ["deck", "most"] (defScope s_bound) := ⟨rfl, rfl, rfl, by decide +kernel, rfl, by decide +kernel, by decide +kernel⟩
section
variable {P : Program} {w : World} {K : PySem.W.Frag} {mg : Str → Option Value} {base : Heap}
theorem ok_bound (D : Top K mg "_law_bound" s_bound ["deck", "most"]) (h_next : Has P w K mg base CX0 2 "_law_next" ["deck", "many"] (sp2 (pNext 1))) (h_great : Has P w K mg base CX0 3 "_law_great" ["deck", "most"] (sp2 (pNext 2))) (z_len : mg "len" = none) (z_range : mg "range" = none) :
    Has P w K mg base CX0 4 "_law_bound" ["deck", "most"] (sp2 pBound) := by
  refine D.ok2 sc_bound (fun f cdv A outer s H v1 v2 Q E hr h => ?_)
  obtain ⟨d, n, m, rfl, rfl, m0, m1, hD, hn, q⟩ := h
  refine ⟨_, (pss_cons (ps_set (i := 2) sc_bound.nd rfl (.inl rfl) (pe_own h_next (hr.mono (by decide)) pass0 (pa_cons (pv 0) (pa_cons pe_int pa_nil))))
 (pss_cons (ps_if (pt_cmpR op_eq (pv 2) pe_int (nomark _)) (pss_one (ps_ret (pe_op op_add pe_int (pe_own h_next (hr.mono (by decide)) pass0 (pa_cons (pv 0) (pa_cons pe_int pa_nil)))))) pss_nil)
 (pss_cons (ps_if (pt_cmpR op_eq (pv 2) pe_int (nomark _)) (pss_one (ps_ret (pe_op op_add pe_int (pe_own h_great (hr.mono (by decide)) pass0 (pa_cons (pv 0) (pa_cons (pv 1) pa_nil)))))) pss_nil)
 (pss_cons (ps_if (pt_cmpR op_eq (pv 2) pe_int (nomark _)) (pss_cons (ps_set (i := 3) sc_bound.nd rfl (.inl rfl) pe_int)
 (pss_cons (ps_for PassesOwn.never rfl (pi_range1 (by rfl) z_range (pa_cons pe_int pa_nil)) (pg_name (i := 4) sc_bound.nd rfl (.inl rfl)) (pss_cons (ps_set (i := 5) sc_bound.nd rfl (.inl rfl) (pe_ix ix_list (pe_lst (pa_cons pe_int (pa_cons pe_int (pa_cons pe_int (pa_cons pe_int (pa_cons pe_int (pa_cons pe_int (pa_cons pe_int (pa_cons pe_int pa_nil))))))))) (pe_own h_next (hr.mono (by decide)) pass0 (pa_cons (pv 0) (pa_cons pe_int pa_nil))) (fun _ _ => rfl)))
 (pss_one (ps_if (pt_cmpR op_le (pe_op op_mulB (pv 3) (pv 5)) (pv 1) (nomark _)) (pss_one (ps_set (i := 3) sc_bound.nd rfl (.inl rfl) (pe_op op_mulB (pv 3) (pv 5)))) pss_nil))))
 (pss_one (ps_ret (pv 3))))) pss_nil)
 (pss_cons (ps_if (pt_cmpR op_eq (pv 2) pe_int (nomark _)) (pss_cons (ps_setLc (i := 6) (own := [("prime", 5)]) (by rfl) sc_bound.nd rfl rfl (sw_true rfl rfl rfl (by decide +kernel)) (pi_list (pe_lst (pa_cons pe_int (pa_cons pe_int (pa_cons pe_int (pa_cons pe_int (pa_cons pe_int (pa_cons pe_int (pa_cons pe_int (pa_cons pe_int pa_nil)))))))))) (blkOk_by (own := [("prime", 5)]) (N := ["deck", "most", "way", "found", "k", "prime", "some"]) (sc := defScope s_bound) (by decide +kernel)) (fun _ _ _ _ _ => pg_name (i := 5) sc_bound.nd rfl (Or.inl rfl)) (fun _ _ _ _ _ => pts_one (pt_cmpR op_le (pv 5) (pv 1) (nomark _))) (fun _ _ _ _ _ => (pv 5)))
 (pss_one (ps_ret (pe_ix ix_list (pv 6) (pe_own h_next (hr.mono (by decide)) pass0 (pa_cons (pv 0) (pa_cons (pe_callB (id := "len") call_len_seq (by rfl) z_len (by decide +kernel) (pa_cons (pv 6) pa_nil)) pa_nil))) (fun _ _ => rfl))))) pss_nil)
 (pss_cons (ps_if (pt_cmpR op_eq (pv 2) pe_int (nomark _)) (pss_one (ps_ret (pe_op op_sub (pv 1) (pe_own h_next (hr.mono (by decide)) pass0 (pa_cons (pv 0) (pa_cons pe_int pa_nil)))))) pss_nil)
 (pss_cons (ps_set (i := 3) sc_bound.nd rfl (.inl rfl) pe_int)
 (pss_cons (ps_set (i := 5) sc_bound.nd rfl (.inl rfl) (pe_ix ix_list (pe_lst (pa_cons pe_int (pa_cons pe_int (pa_cons pe_int (pa_cons pe_int pa_nil))))) (pe_own h_next (hr.mono (by decide)) pass0 (pa_cons (pv 0) (pa_cons pe_int pa_nil))) (fun _ _ => rfl)))
 (pss_cons (ps_for PassesOwn.never rfl (pi_range1 (by rfl) z_range (pa_cons (pe_op op_add pe_int (pe_own h_next (hr.mono (by decide)) pass0 (pa_cons (pv 0) (pa_cons pe_int pa_nil)))) pa_nil)) (pg_name (i := 4) sc_bound.nd rfl (.inl rfl)) (pss_one (ps_if (pt_cmpR op_le (pe_op op_mulB (pv 3) (pv 5)) (pv 1) (nomark _)) (pss_one (ps_set (i := 3) sc_bound.nd rfl (.inl rfl) (pe_op op_mulB (pv 3) (pv 5)))) pss_nil)))
 (pss_one (ps_ret (pv 3)))))))))))), ?_⟩
  refine ⟨_, rfl, _, _, rfl, d, n, 6, rfl, rfl, by decide, by decide, hD, by omega, fun H1 way B1 D1 w0 w1 => ?_⟩
  refine ⟨_, rfl, rfl, _, rfl, ifI (fun e => ?_) (fun e0 => ?_)⟩
  · refine ⟨_, rfl, _, _, rfl, d, n + 1, 12, rfl, rfl, by decide, by decide, D1, by omega, fun H2 v B2 D2 u0 u1 => ?_⟩
    exact ⟨_, _, rfl, rfl, q _ _ (B1.trans B2) (D2.mono (by omega)) (by omega) (by omega)⟩
  refine ⟨_, rfl, rfl, _, rfl, ifI (fun e => ?_) (fun e1 => ?_)⟩
  · refine ⟨_, rfl, _, rfl, _, _, rfl, d, n + 1, m, rfl, rfl, by omega, by omega, D1, by omega, fun H2 v B2 D2 u0 u1 => ?_⟩
    exact ⟨_, _, rfl, rfl, q _ _ (B1.trans B2) (D2.mono (by omega)) (by omega) (by omega)⟩
  refine ⟨_, rfl, rfl, _, rfl, ifI (fun e => ?_) (fun e2 => ?_)⟩
  · -- found = 1; for k in range(24)
    refine ⟨24, rfl, by decide, by decide, for_range (lo := 0) (n := 24) (fun i σ H' => ∃ (yk yp : Option V) (g : Int), σ = [some (.ref d), some (.int m), some (.int way), some (.int g), yk, yp, none] ∧ But d H H' ∧ Deck H' d (n + 1 + i) ∧ 1 ≤ g ∧ g ≤ m) ⟨none, none, 1, rfl, B1, D1, by omega, by omega⟩ ?_ ?_⟩
    · rintro i σ H' hi ⟨yk, yp, g, rfl, B2, D2, g0, g1⟩
      refine ⟨by show 8 ≤ sizeLine; decide, fun l nl => ?_⟩
      have s1 := same_new (o := .lst [.int 2, .int 2, .int 3, .int 3, .int 5, .int 7, .int 11, .int 13]) nl
      refine ⟨_, rfl, _, _, rfl, d, n + 1 + i, 8, rfl, rfl, by decide, by decide, D2.same s1, by omega, fun H3 v B3 D3 u0 u1 => ?_⟩
      obtain ⟨x, hx, ex⟩ := at_ints (ns := [2, 2, 3, 3, 5, 7, 11, 13]) u0 (by show v < 8; exact u1)
      have bx : 2 ≤ x ∧ x ≤ 13 := (by decide : ∀ x ∈ ([2, 2, 3, 3, 5, 7, 11, 13] : List Int), 2 ≤ x ∧ x ≤ 13) x hx
      have hl3 : H3 l = some (.lst [.int 2, .int 2, .int 3, .int 3, .int 5, .int 7, .int 11, .int 13]) := B3 _ _ (D2.ne nl) upd_same
      have B4 : But d H H3 := (B2.trans s1.but).trans B3
      have mb := mul_bd (show 0 ≤ g by omega) g1 (show 0 ≤ x by omega) bx.2
      refine ⟨l, _, v, _, rfl, rfl, SqL.of hl3, ex, ?_⟩
      refine ⟨_, rfl, _, rfl, _, _, rfl, rfl, ⟨by unfold Big; omega, by unfold Big; omega⟩, _, rfl, _, _, rfl, rfl, _, rfl, ifD (fun le => ?_) (fun le => ?_)⟩
      · refine ⟨_, rfl, _, rfl, _, _, rfl, rfl, ⟨by unfold Big; omega, by unfold Big; omega⟩, some (.int (0 + i)), some (.int x), g * x, rfl, B4, D3.mono (by omega), ?_, le⟩
        have := mul_bd (show (0:Int) ≤ 1 by decide) g0 (show (0:Int) ≤ 1 by decide) (show 1 ≤ x by omega)
        omega
      · exact ⟨some (.int (0 + i)), some (.int x), g, rfl, B4, D3.mono (by omega), g0, g1⟩
    · rintro σ H' ⟨yk, yp, g, rfl, B2, D2, g0, g1⟩
      exact ⟨_, rfl, q _ _ B2 (D2.mono (by omega)) g0 g1⟩
  refine ⟨_, rfl, rfl, _, rfl, ifI (fun e => ?_) (fun e3 => ?_)⟩
  · -- some = [prime for prime in [..] if prime <= most]
    refine ⟨by show 8 ≤ sizeLine; decide, fun l nl => ?_⟩
    have s1 := same_new (o := .lst [.int 2, .int 3, .int 7, .int 97, .int 1999, .int 10007, .int 999983, .int 999999999989]) nl
    refine ⟨l, rfl, ⟨_, SqL.of upd_same⟩, fun L nL => ?_⟩
    have nlL : l ≠ L := ne_of_none (upd_same (H := H1)) nL
    refine lc_list (K := K) (a := l) (xs := ([2, 3, 7, 97, 1999, 10007, 999983, 999999999989] : List Int).map V.int)
      (fun i H' => ∃ acc : List Int, H' = upd (upd H1 l (.lst [.int 2, .int 3, .int 7, .int 97, .int 1999, .int 10007, .int 999983, .int 999999999989])) L (.lst (acc.map V.int)) ∧ acc.length ≤ i ∧ (∀ x ∈ acc, 2 ≤ x ∧ x ≤ m) ∧ (0 < i → 0 < acc.length)) ⟨[], rfl, Nat.le_refl _, by simp, by omega⟩ ?_ ?_ ?_
    · rintro i H' _ ⟨acc, rfl, _⟩
      refine SqL.of ?_
      rw [upd_ne nlL, upd_same]
      rfl
    · rintro i x H' hi ⟨acc, rfl, al, ab, ap⟩
      obtain ⟨z, hz, rfl⟩ : ∃ z, ([2, 3, 7, 97, 1999, 10007, 999983, 999999999989] : List Int)[i]? = some z ∧ x = V.int z := by
        rw [List.getElem?_map] at hi
        cases ez : ([2, 3, 7, 97, 1999, 10007, 999983, 999999999989] : List Int)[i]? with
        | none => rw [ez] at hi; cases hi
        | some z => rw [ez] at hi; exact ⟨z, rfl, (Option.some.inj hi).symm⟩
      have i8 : i < 8 := (List.getElem?_eq_some_iff.mp hz).1
      have z2 : 2 ≤ z := (by decide : ∀ x ∈ ([2, 3, 7, 97, 1999, 10007, 999983, 999999999989] : List Int), 2 ≤ x) z (List.mem_of_getElem? hz)
      refine ⟨rfl, _, rfl, _, rfl, _, _, rfl, rfl, _, rfl, ifD (fun le => ?_) (fun le => ?_)⟩
      · refine ⟨_, rfl, _, upd_same, ?_, acc ++ [z], ?_, ?_, fun y hy => ?_, fun _ => ?_⟩
        · rw [List.length_map]
          exact szl (by omega)
        · rw [upd_upd, List.map_append]
          rfl
        · rw [List.length_append]
          show acc.length + 1 ≤ i + 1
          omega
        · rcases List.mem_append.mp hy with hy | hy
          · exact ab y hy
          · rw [List.mem_singleton.mp hy]
            exact ⟨z2, le⟩
        · rw [List.length_append]
          show 0 < acc.length + 1
          omega
      · refine ⟨acc, rfl, by omega, ab, fun _ => ?_⟩
        by_cases i0 : 0 < i
        · exact ap i0
        · have : i = 0 := by omega
          subst this
          have ez : (2 : Int) = z := Option.some.inj hz
          omega
    · rintro H' ⟨acc, rfl, al, ab, ap⟩
      have al8 : acc.length ≤ 8 := al
      have ap' : 0 < acc.length := ap (by decide)
      have s2 := same_new (o := .lst (acc.map V.int)) nL
      refine ⟨_, rfl, _, rfl, _, rfl, L, _, rfl, .inl (SqL.of upd_same), _, _, rfl, d, n + 1, _, rfl, rfl, ?_, ?_, (D1.same s1).same s2, by omega, fun H3 v B3 D3 u0 u1 => ?_⟩
      · rw [List.length_map]
        omega
      · rw [List.length_map]
        omega
      · rw [List.length_map] at u1
        obtain ⟨x, hx, ex⟩ := at_ints (ns := acc) u0 u1
        have hl3 : H3 L = some (.lst (acc.map V.int)) := B3 _ _ ((D1.same s1).ne nL) upd_same
        have bx := ab x hx
        exact ⟨L, _, v, _, rfl, rfl, SqL.of hl3, ex, q _ _ ((B1.trans (s1.trans s2).but).trans B3) (D3.mono (by omega)) (by omega) bx.2⟩
  refine ⟨_, rfl, rfl, _, rfl, ifI (fun e => ?_) (fun e4 => ?_)⟩
  · refine ⟨_, rfl, _, rfl, _, _, rfl, d, n + 1, 50, rfl, rfl, by decide, by decide, D1, by omega, fun H2 v B2 D2 u0 u1 => ?_⟩
    exact ⟨_, _, rfl, rfl, q _ _ (B1.trans B2) (D2.mono (by omega)) (by omega) (by omega)⟩
  -- a prime's power
  refine ⟨by show 4 ≤ sizeLine; decide, fun l nl => ?_⟩
  have s1 := same_new (o := .lst [.int 2, .int 3, .int 5, .int 7]) nl
  refine ⟨_, rfl, _, _, rfl, d, n + 1, 4, rfl, rfl, by decide, by decide, D1.same s1, by omega, fun H2 v B2 D2 u0 u1 => ?_⟩
  obtain ⟨x, hx, ex⟩ := at_ints (ns := [2, 3, 5, 7]) u0 (by show v < 4; exact u1)
  have bx : 2 ≤ x ∧ x ≤ 7 := (by decide : ∀ x ∈ ([2, 3, 5, 7] : List Int), 2 ≤ x ∧ x ≤ 7) x hx
  have hl2 : H2 l = some (.lst [.int 2, .int 3, .int 5, .int 7]) := B2 _ _ (D1.ne nl) upd_same
  refine ⟨l, _, v, _, rfl, rfl, SqL.of hl2, ex, ?_⟩
  refine ⟨_, rfl, _, _, rfl, d, n + 2, 40, rfl, rfl, by decide, by decide, D2, by omega, fun H3 c B3 D3 c0 c1 => ?_⟩
  have B4 : But d H H3 := ((B1.trans s1.but).trans B2).trans B3
  refine ⟨_, _, rfl, rfl, 1 + c, rfl, by omega, by omega, for_range (lo := 0) (n := (1 + c).toNat) (fun i σ H' => ∃ (yk : Option V) (g : Int), σ = [some (.ref d), some (.int m), some (.int way), some (.int g), yk, some (.int x), none] ∧ H' = H3 ∧ 1 ≤ g ∧ g ≤ m) ⟨none, 1, rfl, rfl, by omega, by omega⟩ ?_ ?_⟩
  · rintro i σ H' hi ⟨yk, g, rfl, rfl, g0, g1⟩
    have mb := mul_bd (show 0 ≤ g by omega) g1 (show 0 ≤ x by omega) bx.2
    refine ⟨_, rfl, _, rfl, _, _, rfl, rfl, ⟨by unfold Big; omega, by unfold Big; omega⟩, _, rfl, _, _, rfl, rfl, _, rfl, ifD (fun le => ?_) (fun le => ?_)⟩
    · refine ⟨_, rfl, _, rfl, _, _, rfl, rfl, ⟨by unfold Big; omega, by unfold Big; omega⟩, some (.int (0 + i)), g * x, rfl, rfl, ?_, le⟩
      have := mul_bd (show (0:Int) ≤ 1 by decide) g0 (show (0:Int) ≤ 1 by decide) (show 1 ≤ x by omega)
      omega
    · exact ⟨some (.int (0 + i)), g, rfl, rfl, g0, g1⟩
  · rintro σ H' ⟨yk, g, rfl, rfl, g0, g1⟩
    exact ⟨_, rfl, q _ _ B4 (D3.mono (by omega)) g0 g1⟩
end
end Tw


namespace Tw
open PySem PySem.Spec PyProof.Rows L2
abbrev s_rule : Stmt := topS 18
theorem sc_rule : FnScope ["deck", "most", "bound", "times", "way", "shared", "prime", "plus"] ["deck", "most"] (defScope s_rule) := ⟨rfl, rfl, rfl, by decide +kernel, rfl, by decide +kernel, by decide +kernel⟩
section
variable {P : Program} {w : World} {K : PySem.W.Frag} {mg : Str → Option Value} {base : Heap}
theorem ok_rule (D : Top K mg "_law_rule" s_rule ["deck", "most"]) (h_next : Has P w K mg base CX0 2 "_law_next" ["deck", "many"] (sp2 (pNext 1))) (h_great : Has P w K mg base CX0 3 "_law_great" ["deck", "most"] (sp2 (pNext 2))) (h_bound : Has P w K mg base CX0 4 "_law_bound" ["deck", "most"] (sp2 pBound)) :
    Has P w K mg base CX0 5 "_law_rule" ["deck", "most"] (sp2 pRule) := by
  refine D.ok2 sc_rule (fun f cdv A outer s H v1 v2 Q E hr h => ?_)
  obtain ⟨d, n, m, rfl, rfl, m0, m1, hD, hn, q⟩ := h
  refine ⟨_, (pss_cons (ps_set (i := 2) sc_rule.nd rfl (.inl rfl) (pe_own h_bound (hr.mono (by decide)) pass0 (pa_cons (pv 0) (pa_cons (pv 1) pa_nil))))
 (pss_cons (ps_set (i := 3) sc_rule.nd rfl (.inl rfl) (pe_own h_great (hr.mono (by decide)) pass0 (pa_cons (pv 0) (pa_cons (pv 2) pa_nil))))
 (pss_cons (ps_set (i := 4) sc_rule.nd rfl (.inl rfl) (pe_own h_next (hr.mono (by decide)) pass0 (pa_cons (pv 0) (pa_cons pe_int pa_nil))))
 (pss_cons (ps_set (i := 5) sc_rule.nd rfl (.inl rfl) pe_int)
 (pss_cons (ps_for PassesOwn.never rfl (pi_list (pe_lst (pa_cons pe_int (pa_cons pe_int (pa_cons pe_int (pa_cons pe_int (pa_cons pe_int (pa_cons pe_int pa_nil)))))))) (pg_name (i := 6) sc_rule.nd rfl (.inl rfl)) (pss_one (ps_if (pt_cmpR op_eq (pe_op op_mod (pv 2) (pv 6)) pe_int (nomark _)) (pss_one (ps_set (i := 5) sc_rule.nd rfl (.inl rfl) (pe_op op_mulB (pv 5) (pv 6)))) pss_nil)))
 (C8.pss_cut (ps_if (pt_cmpR op_lt (pv 4) pe_int (nomark _)) (pss_one (ps_set (i := 3) sc_rule.nd rfl (.inl rfl) (pe_ix ix_list (pe_lst (pa_cons pe_int (pa_cons pe_int (pa_cons (pe_op op_sub (pv 2) pe_int) pa_nil)))) (pv 4) (fun _ _ => rfl)))) pss_nil)
 (C8.pss_cut (ps_if (pt_cmpR op_eq (pv 4) pe_int (nomark _)) (pss_one (ps_set (i := 3) sc_rule.nd rfl (.inl rfl) (pe_op op_mulB (pv 3) (pv 5)))) pss_nil)
 (C8.pss_cut (ps_if (pt_cmpR op_in_seq (pv 4) (pe_tup (pa_cons pe_int (pa_cons pe_int pa_nil))) (by rfl)) (pss_one (ps_set (i := 3) sc_rule.nd rfl (.inl rfl) (pe_op op_add pe_int (pe_op op_mulB (pe_op op_mulB (pv 3) (pv 5)) (pe_ix ix_list (pe_lst (pa_cons pe_int (pa_cons pe_int pa_nil))) (pe_op op_sub (pv 4) pe_int) (fun _ _ => rfl)))))) pss_nil)
 (pss_cons (ps_set (i := 7) sc_rule.nd rfl (.inl rfl) (pe_ix ix_list (pe_lst (pa_cons (pe_own h_great (hr.mono (by decide)) pass0 (pa_cons (pv 0) (pa_cons (pv 2) pa_nil))) (pa_cons pe_int (pa_cons pe_int (pa_cons (pe_op op_sub (pv 2) pe_int) pa_nil))))) (pe_own h_next (hr.mono (by decide)) pass0 (pa_cons (pv 0) (pa_cons pe_int pa_nil))) (fun _ _ => rfl)))
 (pss_one (ps_ret (pe_tup (pa_cons (pe_op op_mod (pv 3) (pv 2)) (pa_cons (pe_op op_mod (pv 7) (pv 2)) (pa_cons (pv 2) pa_nil))))))))))))))), ?_⟩
  refine ⟨_, rfl, _, rfl, _, _, rfl, d, n, m, rfl, rfl, m0, m1, hD, by omega, fun H1 b B1 D1 b0 b1 => ?_⟩
  refine ⟨_, rfl, _, rfl, _, _, rfl, d, n + 50, b, rfl, rfl, by omega, by omega, D1, by omega, fun H2 t B2 D2 t0 t1 => ?_⟩
  refine ⟨_, rfl, _, _, rfl, d, n + 52, 8, rfl, rfl, by decide, by decide, D2, by omega, fun H3 way B3 D3 w0 w1 => ?_⟩
  have B4 : But d H H3 := (B1.trans B2).trans B3
  -- shared = 1; for prime in [..]
  refine ⟨by show 6 ≤ sizeLine; decide, fun l nl => ?_⟩
  have s1 := same_new (o := .lst [.int 2, .int 3, .int 5, .int 7, .int 11, .int 13]) nl
  have D4 := D3.same s1
  have B5 : But d H _ := B4.trans s1.but
  refine ⟨l, rfl, ⟨_, SqL.of upd_same⟩, for_list (K := K) (a := l) (xs := ([2, 3, 5, 7, 11, 13] : List Int).map V.int) (fun i σ H' => ∃ (yp : Option V) (g : Int), σ = [some (.ref d), some (.int m), some (.int b), some (.int t), some (.int way), some (.int g), yp, none] ∧ H' = upd H3 l (.lst [.int 2, .int 3, .int 5, .int 7, .int 11, .int 13]) ∧ 1 ≤ g ∧ g ≤ 13 ^ i) ⟨none, 1, rfl, rfl, by omega, by decide⟩ ?_ ?_ ?_⟩
  · rintro i σ H' _ ⟨yp, g, rfl, rfl, _⟩
    exact SqL.of upd_same
  · rintro i x σ H' hi ⟨yp, g, rfl, rfl, g0, g1⟩
    obtain ⟨z, hz, rfl⟩ : ∃ z, ([2, 3, 5, 7, 11, 13] : List Int)[i]? = some z ∧ x = V.int z := by
      rw [List.getElem?_map] at hi
      cases ez : ([2, 3, 5, 7, 11, 13] : List Int)[i]? with
      | none => rw [ez] at hi; cases hi
      | some z => rw [ez] at hi; exact ⟨z, rfl, (Option.some.inj hi).symm⟩
    have i6 : i < 6 := (List.getElem?_eq_some_iff.mp hz).1
    have z2 : 2 ≤ z ∧ z ≤ 13 := (by decide : ∀ x ∈ ([2, 3, 5, 7, 11, 13] : List Int), 2 ≤ x ∧ x ≤ 13) z (List.mem_of_getElem? hz)
    have p6 : (13 : Int) ^ i ≤ 371293 := by
      have : i = 0 ∨ i = 1 ∨ i = 2 ∨ i = 3 ∨ i = 4 ∨ i = 5 := by omega
      rcases this with rfl | rfl | rfl | rfl | rfl | rfl <;> decide
    have mb := mul_bd (show 0 ≤ g by omega) g1 (show 0 ≤ z by omega) z2.2
    have ps : (13 : Int) ^ (i + 1) = 13 ^ i * 13 := Int.pow_succ _ _
    refine ⟨_, rfl, _, rfl, _, _, rfl, rfl, (show (0 : Int) < z by omega), rfl, _, rfl, ifI (fun e => ?_) (fun e => ?_)⟩
    · refine ⟨_, rfl, _, rfl, _, _, rfl, rfl, ⟨by unfold Big; omega, by unfold Big; omega⟩, some (.int z), g * z, rfl, rfl, ?_, by omega⟩
      have := mul_bd (show (0:Int) ≤ 1 by decide) g0 (show (0:Int) ≤ 1 by decide) (show 1 ≤ z by omega)
      omega
    · exact ⟨some (.int z), g, rfl, rfl, g0, by omega⟩
  rintro σ H' ⟨yp, g, rfl, rfl, g0, g1⟩
  have g1' : g ≤ 4826809 := g1
  have tb := mul_bd t0 (show t ≤ 1000000000000 by omega) (show 0 ≤ g by omega) g1'
  -- if way < 3
  refine ⟨fun σ' H' => ∃ (t' : Int), σ' = [some (.ref d), some (.int m), some (.int b), some (.int t'), some (.int way), some (.int g), yp, none] ∧ But d H H' ∧ Deck H' d (n + 53) ∧ 0 ≤ t' ∧ t' ≤ 1000000000000, ?_, ?_⟩
  · refine ⟨_, rfl, _, _, rfl, rfl, _, rfl, ifD (fun e => ?_) (fun e => ?_)⟩
    · refine ⟨_, rfl, _, _, rfl, rfl, by show 3 ≤ sizeLine; decide, fun l2 nl2 => ?_⟩
      have s2 := same_new (o := .lst [.int 0, .int 1, .int (b - 1)]) nl2
      obtain ⟨x, hx, ex⟩ := at_ints (ns := [0, 1, b - 1]) w0 (by show way < 3; exact e)
      refine ⟨_, rfl, l2, _, way, _, rfl, rfl, SqL.of upd_same, ex, x, rfl, B5.trans s2.but, D4.same s2, ?_⟩
      simp at hx
      rcases hx with rfl | rfl | rfl <;> omega
    · exact ⟨t, rfl, B5, D4, t0, by omega⟩
  rintro σ' H5 ⟨t2, rfl, B6, D6, t20, t21⟩
  have tb2 := mul_bd t20 t21 (show 0 ≤ g by omega) g1'
  -- if way == 3
  refine ⟨fun σ' H' => ∃ (t' : Int), σ' = [some (.ref d), some (.int m), some (.int b), some (.int t'), some (.int way), some (.int g), yp, none] ∧ H' = H5 ∧ 0 ≤ t' ∧ t' ≤ 4826809000000000000, ?_, ?_⟩
  · refine ⟨_, rfl, rfl, _, rfl, ifI (fun e => ?_) (fun e => ?_)⟩
    · exact ⟨_, rfl, _, rfl, _, _, rfl, rfl, ⟨by unfold Big; omega, by unfold Big; omega⟩, _, rfl, rfl, by omega, by omega⟩
    · exact ⟨t2, rfl, rfl, by omega, by omega⟩
  rintro σ' _ ⟨t3, rfl, rfl, t30, t31⟩
  have tb3 := mul_bd t30 t31 (show 0 ≤ g by omega) g1'
  -- if way in (4, 5)
  refine ⟨fun σ' H' => ∃ (t' : Int), σ' = [some (.ref d), some (.int m), some (.int b), some (.int t'), some (.int way), some (.int g), yp, none] ∧ But d H H' ∧ Deck H' d (n + 53), ?_, ?_⟩
  · refine ⟨_, rfl, by show 2 ≤ sizeLine; decide, fun l2 nl2 => ?_⟩
    have s2 := same_new (o := .tup [.int 4, .int 5]) nl2
    refine ⟨l2, _, rfl, .inr (SqT.of upd_same), rfl, rfl, _, rfl, ifB (fun e => ?_) (fun e => ?_)⟩
    · have hw : way = 4 ∨ way = 5 := by
        have e' : ((4 == way) || ((5 == way) || false)) = true := e
        simp at e'
        omega
      refine ⟨_, rfl, _, rfl, _, _, rfl, rfl, ⟨by unfold Big; omega, by unfold Big; omega⟩, by show 2 ≤ sizeLine; decide, fun l3 nl3 => ?_⟩
      have s3 := same_new (o := .lst [.int 1, .int 2]) nl3
      obtain ⟨x, hx, ex⟩ := at_ints (ns := [1, 2]) (show 0 ≤ way - 4 by omega) (by show way - 4 < 2; omega)
      have bx : 1 ≤ x ∧ x ≤ 2 := (by decide : ∀ x ∈ ([1, 2] : List Int), 1 ≤ x ∧ x ≤ 2) x hx
      refine ⟨_, rfl, _, _, rfl, rfl, l3, _, way - 4, _, rfl, rfl, SqL.of upd_same, ex, _, _, rfl, rfl, ⟨by unfold Big; omega, by unfold Big; omega⟩, _, _, rfl, rfl, _, rfl, (B6.trans s2.but).trans s3.but, (D6.same s2).same s3⟩
    · exact ⟨t3, rfl, B6.trans s2.but, D6.same s2⟩
  rintro σ' H6 ⟨t4, rfl, B7, D7⟩
  -- plus
  refine ⟨_, rfl, _, rfl, _, _, rfl, d, n + 53, b, rfl, rfl, by omega, by omega, D7, by omega, fun H7 p B8 D8 p0 p1 => ?_⟩
  refine ⟨_, rfl, _, _, rfl, rfl, by show 4 ≤ sizeLine; decide, fun l2 nl2 => ?_⟩
  have s2 := same_new (o := .lst [.int p, .int 0, .int 1, .int (b - 1)]) nl2
  refine ⟨_, rfl, _, _, rfl, d, n + 55, 4, rfl, rfl, by decide, by decide, D8.same s2, by omega, fun H8 v B9 D9 u0 u1 => ?_⟩
  obtain ⟨x, hx, ex⟩ := at_ints (ns := [p, 0, 1, b - 1]) u0 (by show v < 4; exact u1)
  have hl2 : H8 l2 = some (.lst [.int p, .int 0, .int 1, .int (b - 1)]) := B9 _ _ (D8.ne nl2) upd_same
  refine ⟨l2, _, v, _, rfl, rfl, SqL.of hl2, ex, ?_⟩
  refine ⟨_, rfl, _, rfl, _, _, rfl, rfl, (show (0 : Int) < b by omega), _, rfl, _, rfl, _, _, rfl, rfl, (show (0 : Int) < b by omega), _, rfl, by show 3 ≤ sizeLine; decide, fun r nr => ?_⟩
  have s3 := same_new (o := .tup [.int (t4 % b), .int (x % b), .int b]) nr
  have bt := mod_bd t4 (show 0 < b by omega)
  have bp := mod_bd x (show 0 < b by omega)
  have Bf : But d H H8 := ((B7.trans B8).trans s2.but).trans B9
  exact q _ r _ _ _ (Bf.trans s3.but) ((D9.same s3).mono (by omega)) (Bf.free (D9.ne nr) nr) upd_same ⟨b0, by omega, bt.1, bt.2, bp.1, bp.2⟩ b1
end
end Tw


namespace Tw
open PySem PySem.Spec PyProof.Rows L2
abbrev s_init : Stmt := inClass (topS 2) 0
theorem sc_init : FnScope ["self", "number"] ["self", "number"] (defScope s_init) := ⟨rfl, rfl, rfl, by decide +kernel, rfl, by decide +kernel, by decide +kernel⟩
abbrev s_is_whole : Stmt := topS 4
theorem sc_is_whole : FnScope ["thing"] ["thing"] (defScope s_is_whole) := ⟨rfl, rfl, rfl, by decide +kernel, rfl, by decide +kernel, by decide +kernel⟩
abbrev s_is_number : Stmt := topS 5
theorem sc_is_number : FnScope ["thing", "bound"] ["thing", "bound"] (defScope s_is_number) := ⟨rfl, rfl, rfl, by decide +kernel, rfl, by decide +kernel, by decide +kernel⟩
abbrev s_check_number : Stmt := topS 6
theorem sc_check_number : FnScope ["number", "bound"] ["number", "bound"] (defScope s_check_number) := ⟨rfl, rfl, rfl, by decide +kernel, rfl, by decide +kernel, by decide +kernel⟩
section
variable {P : Program} {w : World} {K : PySem.W.Frag} {mg : Str → Option Value} {base : Heap}
theorem ok_init {f CR : Addr} {fd : FuncData} (F : Fun K "__init__" "NoNumber.__init__" s_init f fd) (g_RowError : mg "RowError" = some (.ref CR)) (r_RowError : ClX.CRead K CR (.type "type"))
    (i_RowError : PySem.W.findCls K (.ref CR) (.type "type") "__init__" = some (.val (.builtin "ValueError.__init__"))) : FnOk P w K mg base CX0 1 f fd ["self", "number"] (spInit K) := by
  refine F.ok sc_init (fun vs H Q E h => ?_) (fun cdv A outer s H vs Q E hr h => ?_)
  · obtain ⟨_, _, rfl, _⟩ := h; rfl
  obtain ⟨_, v, rfl, a, C, rfl, T, nf, ha, q⟩ := h
  refine ⟨_, pss_cons (ps_expr (pe_ownInit (by rfl) g_RowError r_RowError i_RowError (pa_cons (pv 0) (pa_cons pe_str pa_nil)))) (pss_one (ps_ost (pv 0) (pv 1))), ?_⟩
  refine ⟨_, rfl, a, C, _, rfl, by show 1 ≤ 1000; decide, T, ha, ?_⟩
  exact ⟨_, rfl, _, rfl, a, C, rfl, T, nf, .inl ⟨ha, fun d nd ne => q d nd ne⟩⟩
theorem ok_is_whole (D : Top K mg "is_whole" s_is_whole ["thing"]) (z_isinstance : mg "isinstance" = none) (z_int : mg "int" = none) (z_bool : mg "bool" = none) : Has P w K mg base CX0 1 "is_whole" ["thing"] (sp1 pWhole) := by
  refine D.ok1 sc_is_whole (fun f cdv A outer s H v1 Q E hr h => ?_)
  obtain ⟨n, rfl, q⟩ := h
  refine ⟨_, (pss_one (ps_ret (pe_and (pe_callB (id := "isinstance") call_isA (by rfl) z_isinstance (by decide +kernel) (pa_cons (pv 0) (pa_cons (pe_bltn (v := .ty "int") (by rfl) z_int (by decide +kernel) rfl) pa_nil))) (pe_one (pe_not (pe_callB (id := "isinstance") call_isA (by rfl) z_isinstance (by decide +kernel) (pa_cons (pv 0) (pa_cons (pe_bltn (v := .ty "bool") (by rfl) z_bool (by decide +kernel) rfl) pa_nil)))))))), ?_⟩
  refine ⟨_, rfl, .inr ⟨_, _, _, _, true, rfl, .ty _, .base (.int n), kit_ty (by decide +kernel), _, rfl, ifT rfl ?_⟩⟩
  exact ⟨_, rfl, .inr ⟨_, _, _, _, false, rfl, .ty _, .base (.int n), kit_ty (by decide +kernel), _, rfl, q⟩⟩
theorem ok_is_number (D : Top K mg "is_number" s_is_number ["thing", "bound"]) (h_is_whole : Has P w K mg base CX0 1 "is_whole" ["thing"] (sp1 pWhole)) : Has P w K mg base CX0 2 "is_number" ["thing", "bound"] (sp2 pIsNum) := by
  refine D.ok2 sc_is_number (fun f cdv A outer s H v1 v2 Q E hr h => ?_)
  obtain ⟨n, m, rfl, rfl, q⟩ := h
  refine ⟨_, (pss_one (ps_ret (pe_and (pe_own h_is_whole (hr.mono (by decide)) pass0 (pa_cons (pv 0) pa_nil)) (pe_one (pe_chain op_le op_lt pe_int (pv 0) (pv 1)))))), ?_⟩
  refine ⟨_, rfl, _, rfl, n, rfl, _, rfl, ifT rfl ?_⟩
  refine ⟨_, rfl, _, _, rfl, rfl, _, rfl, ifD (fun l => ⟨_, rfl, _, _, rfl, rfl, ?_⟩) (fun l => ?_)⟩
  · have e : decide (0 ≤ n ∧ n < m) = decide (n < m) := by
      by_cases h : n < m <;> simp [h, l]
    rw [e] at q
    exact q
  · have e : decide (0 ≤ n ∧ n < m) = false := decide_eq_false fun z => l z.1
    rw [e] at q
    exact q
theorem ok_check_number {CN fI : Addr} {fdI : FuncData} (D : Top K mg "check_number" s_check_number ["number", "bound"]) (h_is_number : Has P w K mg base CX0 2 "is_number" ["thing", "bound"] (sp2 pIsNum)) (oex_NoNumber : OexC K CN)
    (n_NoNumber : PySem.W.findIn K (.ref CN) "__init__" = some (some (.ref fI))) (t_NoNumber : PySem.W.typeIn K (.ref fI) = some (.type "function")) (F_NoNumber : FnOk P w K mg base CX0 1 fI fdI ["self", "number"] (spInit K)) (b_NoNumber : Binds K fdI ["self", "number"] [])
    (g_NoNumber : mg "NoNumber" = some (.ref CN)) (nf : PySem.W.findIn K (.ref CN) "number" = some none) : Has P w K mg base (L2.CX P w) 3 "check_number" ["number", "bound"] (sp2 (pCheck CN)) := by
  refine D.ok2X sc_check_number (fun f cdv A outer s H v1 v2 Q E hr h => ?_)
  obtain ⟨n, m, rfl, rfl, q, e⟩ := h
  refine ⟨_, (pss_one (ps_if (pt_not (pt_val (pe_own h_is_number (hr.mono (by decide)) pass0 (pa_cons (pv 0) (pa_cons (pv 1) pa_nil))))) (pss_one (ps_raise rfl (takes_of rfl rfl rfl rfl) (pmk_oex oex_NoNumber n_NoNumber t_NoNumber F_NoNumber (hr.mono (by decide)) b_NoNumber .nil pass0 (by rfl) g_NoNumber (pa_cons (pv 0) pa_nil)))) pss_nil)), ?_⟩
  have bad : ¬ (0 ≤ n ∧ n < m) → _ := fun hn => e hn
  refine ⟨_, rfl, _, rfl, _, _, rfl, n, m, rfl, rfl, _, rfl, ifN (fun l => ?_) (fun l => q l.1 l.2)⟩
  refine ⟨_, rfl, by show 1 ≤ 1000; decide, fun a na => ⟨_, _, rfl, a, CN, rfl, oex_NoNumber, nf, upd_same, fun d nd ne => ⟨rfl, d, [("number", .int n)], upd_same, ?_, ?_, ?_⟩⟩⟩
  · rw [upd_ne ne, upd_same]
  · rw [upd_ne ne] at nd; exact nd
  · rw [made_eq na ne]
    rw [upd_ne ne] at nd
    exact bad l d nd
end
end Tw


namespace Tw
open PySem PySem.Spec PyProof.Rows L2
abbrev s_next_of : Stmt := topS 8
theorem sc_next_of : FnScope ["rule", "number", "times", "plus", "bound"] ["rule", "number"] (defScope s_next_of) := ⟨rfl, rfl, rfl, by decide +kernel, rfl, by decide +kernel, by decide +kernel⟩
section
variable {P : Program} {w : World} {K : PySem.W.Frag} {mg : Str → Option Value} {base : Heap}
theorem ok_next_of {CN : Addr} (D : Top K mg "next_of" s_next_of ["rule", "number"]) (h_check_number : Has P w K mg base (L2.CX P w) 3 "check_number" ["number", "bound"] (sp2 (pCheck CN))) :
    Has P w K mg base (L2.CX P w) 4 "next_of" ["rule", "number"] (sp2 (pNextOf K CN)) := by
  refine D.ok2X sc_next_of (fun f cdv A outer s H v1 v2 Q E hr h => ?_)
  obtain ⟨r, t, p, m, n, rfl, rfl, hr1, R, q, e⟩ := h
  refine ⟨_, (pss_cons (ps_asg (pv 0) (pg_tup rfl (pgs_cons (pg_name (i := 2) sc_next_of.nd rfl (.inl rfl)) (pgs_cons (pg_name (i := 3) sc_next_of.nd rfl (.inl rfl)) (pgs_cons (pg_name (i := 4) sc_next_of.nd rfl (.inl rfl)) pgs_nil)))))
 (pss_cons (ps_expr (pe_own h_check_number (hr.mono (by decide)) (passes_call (takes_of rfl rfl rfl rfl) (fun _ _ _ _ z => z)) (pa_cons (pv 1) (pa_cons (pv 4) pa_nil))))
 (pss_one (ps_ret (pe_op op_mod (pe_op op_add (pe_op op_mulB (pv 2) (pv 1)) (pv 3)) (pv 4)))))), ?_⟩
  refine ⟨_, rfl, r, _, rfl, hr1, rfl, _, _, rfl, _, _, rfl, _, _, rfl, rfl, ?_⟩
  refine ⟨_, rfl, _, rfl, _, _, rfl, n, m, rfl, rfl, fun n0 n1 => ?_, e⟩
  have := R.b2
  have := R.t0
  have := R.t1
  have := R.b1
  exact ⟨_, rfl, _, rfl, _, _, rfl, rfl, ⟨by unfold Big; omega, by unfold Big; omega⟩, _, rfl, _, _, rfl, rfl, _, rfl, _, _, rfl, rfl, (show (0 : Int) < m by omega), q n0 n1⟩
end
end Tw


namespace Tw
open PySem PySem.Spec PyProof.Rows L2
abbrev s_walked_on : Stmt := topS 10
theorem sc_walked_on : FnScope ["rule", "start", "places", "number"] ["rule", "start", "places"] (defScope s_walked_on) := ⟨rfl, rfl, rfl, by decide +kernel, rfl, by decide +kernel, by decide +kernel⟩
section
variable {P : Program} {w : World} {K : PySem.W.Frag} {mg : Str → Option Value} {base : Heap}
theorem ok_walked_on {CN : Addr} (D : Top K mg "walked_on" s_walked_on ["rule", "start", "places"]) (h_next_of : Has P w K mg base (L2.CX P w) 4 "next_of" ["rule", "number"] (sp2 (pNextOf K CN))) (z_len : mg "len" = none) :
    Has P w K mg base CX0 5 "walked_on" ["rule", "start", "places"] (sp3 (pWalk K)) := by
  refine D.ok3 sc_walked_on (fun f cdv A outer s H v1 v2 v3 Q E hr h => ?_)
  obtain ⟨r, t, p, m, s0, l, ws0, rfl, rfl, rfl, hr1, R, mM, s00, s01, hl, nd0, rg0, q⟩ := h
  refine ⟨_, (pss_cons (ps_set (i := 3) sc_walked_on.nd rfl (.inl rfl) (pv 1))
 (pss_cons (ps_while PassesOwn.never (pt_cmp (pc_dnotin (hu_of hr) (pv 3) (pv 2))) (pss_cons (ps_dput (hu_of hr) (pv 2) (pv 3) (pe_callB (id := "len") call_lenD (by rfl) z_len (by decide +kernel) (pa_cons (pv 2) pa_nil)) rfl)
 (pss_one (ps_set (i := 3) sc_walked_on.nd rfl (.inl rfl) (pe_own h_next_of (hr.mono (by decide)) passL (pa_cons (pv 0) (pa_cons (pv 3) pa_nil)))))))
 (pss_one (ps_ret (pv 3))))), ?_⟩
  have m0 : 0 < m := by have := R.b1; omega
  have wl0 := int_len nd0 rg0
  refine ⟨_, rfl, ?_⟩
  refine ⟨fun k σ H' => ∃ (ws : List Int) (x : Int), σ = [some (.ref r), some (.int s0), some (.ref l), some (.int x)] ∧ H' = upd H l (.dK (enumD 0 ws)) ∧ ws.Nodup ∧ Rng m ws ∧ 0 ≤ x ∧ x < m ∧ k + ws.length = m.toNat + 1 ∧
    wk (stp t p m) k ws x = wk (stp t p m) (m.toNat + 1 - ws0.length) ws0 s0, ⟨m.toNat + 1 - ws0.length, ws0, s0, rfl, (upd_self hl).symm, nd0, rg0, s00, s01, by omega, rfl⟩, ?_⟩
  rintro k σ H' ⟨ws, x, rfl, rfl, nd, rg, x0, x1, hk, hw⟩
  have wl := int_len nd rg
  have wl2 : (ws.length : Int) ≤ 1000000 := by omega
  refine ⟨_, rfl, _, rfl, l, _, rfl, DGet.k (k := Sum.inl x) upd_same, _, rfl, ?_⟩
  by_cases hx : x ∈ ws
  · rw [enumD_some 0 hx]
    refine ifF rfl ?_
    rw [wk_in hx] at hw
    refine ⟨_, rfl, ?_⟩
    rw [← hw] at q
    exact q
  · rw [enumD_none 0 hx]
    refine ifT rfl ?_
    obtain ⟨k, rfl⟩ : ∃ j, k = j + 1 := ⟨k - 1, by
      have := int_len (nodup_snoc nd hx) (rng_snoc rg ⟨x0, x1⟩)
      rw [List.length_append] at this
      have h1 : ([x] : List Int).length = 1 := rfl
      omega⟩
    rw [wk_out hx] at hw
    refine ⟨fun σ' H' => ∃ (ws : List Int) (x : Int), σ' = [some (.ref r), some (.int s0), some (.ref l), some (.int x)] ∧ H' = upd H l (.dK (enumD 0 ws)) ∧ ws.Nodup ∧ Rng m ws ∧ 0 ≤ x ∧ x < m ∧ k + ws.length = m.toNat + 1 ∧
      wk (stp t p m) k ws x = wk (stp t p m) (m.toNat + 1 - ws0.length) ws0 s0, fun σ' H' hN => ⟨k, Nat.lt_succ_self k, hN⟩, ?_⟩
    refine ⟨_, rfl, l, _, rfl, upd_same, _, rfl, _, rfl, l, _, rfl, DPut.k (k := Sum.inl x) upd_same (szM (by rw [enumD_len]; omega)), ?_⟩
    have e1 : upd (upd H l (.dK (enumD 0 ws))) l (.dK (putK (enumD 0 ws) (Sum.inl x) (.int ((enumD 0 ws).length : Int)))) = upd H l (.dK (enumD 0 (ws ++ [x]))) := by
      rw [upd_upd, putK_new _ (enumD_none 0 hx), enumD_snoc, enumD_len, Nat.zero_add]
    rw [e1]
    have hr2 : SqT K (upd H l (.dK (enumD 0 (ws ++ [x])))) r [.int t, .int p, .int m] := sqT_upd hr1 hl (fun ys z => by cases z) (fun ob v z => by cases z)
    have sr := stp_rng (t := t) (p := p) m0 x
    refine ⟨_, rfl, _, rfl, _, _, rfl, r, t, p, m, x, rfl, rfl, hr2, R, fun _ _ => ?_, fun z => absurd ⟨x0, x1⟩ z⟩
    exact ⟨ws ++ [x], stp t p m x, rfl, rfl, nodup_snoc nd hx, rng_snoc rg ⟨x0, x1⟩, sr.1, sr.2, by rw [List.length_append]; show k + (ws.length + 1) = _; omega, hw⟩
end
end Tw


namespace Tw
open PySem PySem.Spec PyProof.Rows L2
abbrev s_all_rounds : Stmt := topS 11
theorem sc_all_rounds : FnScope ["rule", "places", "rounds", "start", "begun", "again", "length"] ["rule"] (defScope s_all_rounds) := ⟨rfl, rfl, rfl, by decide +kernel, rfl, by decide +kernel, by decide +kernel⟩
section
variable {P : Program} {w : World} {K : PySem.W.Frag} {mg : Str → Option Value} {base : Heap}
theorem ok_all_rounds (D : Top K mg "all_rounds" s_all_rounds ["rule"]) (h_walked_on : Has P w K mg base CX0 5 "walked_on" ["rule", "start", "places"] (sp3 (pWalk K)))
    (z_len : mg "len" = none) (z_range : mg "range" = none) (z_tuple : mg "tuple" = none) (z_sorted : mg "sorted" = none) : Has P w K mg base CX0 6 "all_rounds" ["rule"] (sp1 (pAllR K)) := by
  refine D.ok1 sc_all_rounds (fun f cdv A outer s H v1 Q E hr h => ?_)
  obtain ⟨r, t, p, m, rfl, hr1, R, mM, q⟩ := h
  refine ⟨_, (pss_cons (ps_set (i := 1) sc_all_rounds.nd rfl (.inl rfl) pe_dnewK)
 (pss_cons (ps_set (i := 2) sc_all_rounds.nd rfl (.inl rfl) pe_dnewK)
 (pss_cons (ps_for PassesOwn.never rfl (pi_range1 (by rfl) z_range (pa_cons (pe_ix ix_tup (pv 0) pe_int (fun _ _ => rfl)) pa_nil)) (pg_name (i := 3) sc_all_rounds.nd rfl (.inl rfl)) (pss_cons (ps_set (i := 4) sc_all_rounds.nd rfl (.inl rfl) (pe_callB (id := "len") call_lenD (by rfl) z_len (by decide +kernel) (pa_cons (pv 1) pa_nil)))
 (pss_cons (ps_set (i := 5) sc_all_rounds.nd rfl (.inl rfl) (pe_own h_walked_on (hr.mono (by decide)) pass0 (pa_cons (pv 0) (pa_cons (pv 3) (pa_cons (pv 1) pa_nil)))))
 (pss_one (ps_if (pt_cmpR op_ge (pe_dget (hu_of hr) (pv 1) (pv 5) (fun _ _ => rfl)) (pv 4) (nomark _)) (pss_cons (ps_set (i := 6) sc_all_rounds.nd rfl (.inl rfl) (pe_op op_sub (pe_callB (id := "len") call_lenD (by rfl) z_len (by decide +kernel) (pa_cons (pv 1) pa_nil)) (pe_dget (hu_of hr) (pv 1) (pv 5) (fun _ _ => rfl))))
 (pss_one (ps_dput (hu_of hr) (pv 2) (pv 6) (pe_op op_add (pe_dget2 (hu_of hr) (pv 2) (pv 6) pe_int ⟨rfl, rfl, rfl, rfl⟩) pe_int) rfl))) pss_nil)))))
 (pss_one (ps_ret (pe_callTy call_tuple_of (by rfl) z_tuple (by decide +kernel) (pa_cons (pe_callB (id := "sorted") (cr_srtItems rfl) (by rfl) z_sorted (by decide +kernel) (pa_cons (pe_bm0 PySem.F.plainAttrs_dict PySem.F.slot_dict_items PySem.F.type_dict_items mt_itemsK (pv 2)) pa_nil)) pa_nil))))))), ?_⟩
  have m0 : 0 < m := by have := R.b1; omega
  intro lp nlp
  have s1 := same_new (o := .dK []) nlp
  intro lr nlr
  have s2 := same_new (o := .dK []) nlr
  have nlr' : H lr = none := s1.free nlr
  have ne : lp ≠ lr := ne_of_none (upd_same (H := H)) nlr
  have S2 := s1.trans s2
  refine ⟨_, rfl, r, _, 2, .int m, rfl, rfl, S2.tup hr1, rfl, m, rfl, by omega, by omega, for_range (lo := 0) (n := m.toNat) (fun i σ H' => ∃ (ws : List Int) (ks : List Nat) (y3 y4 y5 y6 : Option V), σ = [some (.ref r), some (.ref lp), some (.ref lr), y3, y4, y5, y6] ∧ Same H H' ∧ H' lp = some (.dK (enumD 0 ws)) ∧ H' lr = some (.dK (dInts (rdD ks (Cws (stp t p m) ws)))) ∧
    ws.Nodup ∧ Rng m ws ∧ Fcl (stp t p m) ws ∧ (∀ x : Int, 0 ≤ x → x < i → x ∈ ws) ∧ Cnt (stp t p m) ws ks ∧ ks.length ≤ i) ⟨[], [], none, none, none, none, rfl, S2, ?_, upd_same, List.nodup_nil, (fun x hx => by cases hx), (fun x hx => by cases hx), (fun x a b => by omega), cnt_nil _, Nat.le_refl 0⟩ ?_ ?_⟩
  · rw [upd_ne ne, upd_same]
    rfl
  · rintro i σ H1 hi ⟨ws, ks, y3, y4, y5, y6, rfl, sm, hlp, hlr, nd, rg, fc, cov, C, kl⟩
    have wl := int_len nd rg
    refine ⟨_, rfl, lp, _, rfl, hlp, ?_⟩
    refine ⟨_, rfl, _, rfl, _, rfl, _, _, _, rfl, r, t, p, m, 0 + i, lp, ws, rfl, rfl, rfl, sm.tup hr1, R, by omega, by omega, by omega, hlp, nd, rg, ?_⟩
    have W := wk_good (t := t) (p := p) m0 (m.toNat + 1 - ws.length) ws (0 + i) nd rg ⟨by omega, by omega⟩ (by omega)
    obtain ⟨n, hn, ew⟩ := wk_form (stp t p m) (m.toNat + 1 - ws.length) ws (0 + i)
    have ew1 : (wk (stp t p m) (m.toNat + 1 - ws.length) ws (0 + i)).1 = ws ++ orb (stp t p m) n (0 + i) := by rw [ew]
    have ew2 : (wk (stp t p m) (m.toNat + 1 - ws.length) ws (0 + i)).2 = itr (stp t p m) n (0 + i) := by rw [ew]
    rw [ew1, ew2] at W ⊢
    clear ew ew1 ew2
    obtain ⟨nd2, rg2, hy⟩ := W
    generalize hx : (0 + i : Int) = x at *
    have fc2 := fcl_walk fc hy
    have cov2 : ∀ z : Int, 0 ≤ z → z < i + 1 → z ∈ ws ++ orb (stp t p m) n x := by
      intro z z0 z1
      by_cases c : z < i
      · exact List.mem_append_left _ (cov z z0 c)
      · obtain rfl : z = x := by omega
        cases n with
        | zero => exact hy
        | succ n => exact List.mem_append_right _ (orb_mem.mpr ⟨0, by omega, rfl⟩)
    have sm2 : Same H (upd H1 lp (.dK (enumD 0 (ws ++ orb (stp t p m) n x)))) := same_mut sm nlp
    have hlr2 : (upd H1 lp (.dK (enumD 0 (ws ++ orb (stp t p m) n x)))) lr = some (.dK (dInts (rdD ks (Cws (stp t p m) ws)))) := by
      rw [upd_ne (Ne.symm ne)]
      exact hlr
    have hg := DGet.k (H := upd H1 lp (.dK (enumD 0 (ws ++ orb (stp t p m) n x)))) (a := lp) (k := Sum.inl (itr (stp t p m) n x)) upd_same
    rw [enumD_some 0 hy, Nat.zero_add] at hg
    refine ⟨_, rfl, _, rfl, lp, _, rfl, hg, _, rfl, ?_⟩
    by_cases c : itr (stp t p m) n x ∈ ws
    · have hl : List.idxOf (itr (stp t p m) n x) (ws ++ orb (stp t p m) n x) < ws.length := by
        rw [List.idxOf_append, if_pos c]
        exact List.idxOf_lt_length_of_mem c
      refine ⟨_, _, rfl, rfl, _, rfl, ifF (decide_eq_false (by rw [enumD_len]; omega)) ?_⟩
      have eo := fun L => pcnt_old nd2 fc c L
      refine ⟨_, ks, _, _, _, _, rfl, sm2, upd_same, ?_, nd2, rg2, fc2, cov2, C.old eo, by omega⟩
      rw [hlr2, cws_old eo]
    · have ho : itr (stp t p m) n x ∈ orb (stp t p m) n x := (List.mem_append.mp hy).resolve_left c
      obtain ⟨jn, ej⟩ := orb_idx ho
      have hl : List.idxOf (itr (stp t p m) n x) (ws ++ orb (stp t p m) n x) = List.idxOf (itr (stp t p m) n x) (orb (stp t p m) n x) + ws.length := by
        rw [List.idxOf_append, if_neg c]
      rw [hl] at hg
      generalize List.idxOf (itr (stp t p m) n x) (orb (stp t p m) n x) = j at *
      rw [hl]
      refine ⟨_, _, rfl, rfl, _, rfl, ifT (decide_eq_true (by rw [enumD_len]; omega)) ?_⟩
      have en := fun L => pcnt_new nd2 jn ej.symm L
      refine ⟨_, rfl, lp, _, rfl, upd_same, _, rfl, _, rfl, lp, _, rfl, hg, _, _, rfl, rfl, ?_⟩
      have el : ((enumD 0 (ws ++ orb (stp t p m) n x)).length : Int) - ((j + ws.length : Nat) : Int) = ((n - j : Nat) : Int) := by
        rw [enumD_len, List.length_append, orb_len]
        omega
      dsimp only
      rw [el]
      have c0 : 0 < n - j := by omega
      refine ⟨_, rfl, lr, rfl, .inl ⟨_, .inl hlr2⟩, _, rfl, _, DGet.k (k := Sum.inl ((n - j : Nat) : Int)) hlr2, ?_⟩
      by_cases hk : n - j ∈ ks
      · rw [rdD_in hk]
        refine ⟨_, _, rfl, rfl, _, rfl, _, rfl, lr, _, rfl, DPut.k (k := Sum.inl ((n - j : Nat) : Int)) hlr2 (szM (by rw [rdD_len]; omega)), ?_⟩
        refine ⟨_, ks, _, _, _, _, rfl, same_mut sm2 nlr', ?_, ?_, nd2, rg2, fc2, cov2, C.again hk en, by omega⟩
        · rw [upd_ne ne, upd_same]
        · rw [upd_same, rdD_put hk, cws_new c0 en]
      · rw [rdD_out hk]
        refine ⟨_, _, rfl, rfl, _, rfl, _, rfl, lr, _, rfl, DPut.k (k := Sum.inl ((n - j : Nat) : Int)) hlr2 (szM (by rw [rdD_len]; omega)), ?_⟩
        refine ⟨_, ks ++ [n - j], _, _, _, _, rfl, same_mut sm2 nlr', ?_, ?_, nd2, rg2, fc2, cov2, C.more c0 hk en, by rw [List.length_append]; show ks.length + 1 ≤ i + 1; omega⟩
        · rw [upd_ne ne, upd_same]
        · rw [upd_same, rdD_add hk, cws_new c0 en, cws_none C hk]
  · rintro σ H1 ⟨ws, ks, y3, y4, y5, y6, rfl, sm, hlp, hlr, nd, rg, fc, cov, C, kl⟩
    have all := fun L => nper_of (f := stp t p m) nd rg (fun x x0 x1 _ => cov x x0 (by omega)) L
    refine ⟨_, rfl, .inr (.inr (.inl ⟨rfl, .inl ⟨_, hlr⟩⟩)), lr, _, rfl, rfl, hlr, fun pv npv => ?_⟩
    have s3 := same_new (o := L2.DX.itemsO pv lr) npv
    refine ⟨pv, lr, rdD ks (Cws (stp t p m) ws), rfl, upd_same, s3 _ _ hlr, fun H2 l ps s4 nl pm up hl hp => ?_⟩
    refine ⟨l, _, rfl, .inl ⟨SqL.of hl, fun u nu => ?_⟩⟩
    have s5 := same_new (o := .tup (ps.map fun z => V.ref z.1)) nu
    have S := sm.trans (s3.trans s4)
    exact q _ u ps (S.trans s5) (S.free nu) ⟨upd_same, fun z hz => s5 _ _ (hp z hz)⟩ (C.rds all pm up)
end
end Tw


namespace Tw
open PySem PySem.Spec PyProof.Rows L2
abbrev s_rounds : Stmt := topS 20
theorem sc_rounds : FnScope ["rule", "left", "many", "gone", "lengths", "start", "length", "one"] ["rule"] (defScope s_rounds) := ⟨rfl, rfl, rfl, by decide +kernel, rfl, by decide +kernel, by decide +kernel⟩
abbrev s_law : Stmt := topS 21
theorem sc_law : FnScope ["script", "deck", "turn", "rule", "due", "again", "found", "pair", "one"] ["script"] (defScope s_law) := ⟨rfl, rfl, rfl, by decide +kernel, rfl, by decide +kernel, by decide +kernel⟩
section
variable {P : Program} {w : World} {K : PySem.W.Frag} {mg : Str → Option Value} {base : Heap}
theorem ok_rounds (D : Top K mg "_law_rounds" s_rounds ["rule"]) (z_len : mg "len" = none) (z_range : mg "range" = none) (z_list : mg "list" = none) (z_set : mg "set" = none) (z_sorted : mg "sorted" = none) (z_tuple : mg "tuple" = none) :
    Has P w K mg base CX0 1 "_law_rounds" ["rule"] (sp1 (pAllR K)) := by
  refine D.ok1 sc_rounds (fun f cdv A outer s H v1 Q E hr h => ?_)
  obtain ⟨r, t, p, m, rfl, hr1, R, mM, q⟩ := h
  refine ⟨_, (pss_cons (ps_set (i := 1) sc_rounds.nd rfl (.inl rfl) (pe_listRg rfl (by rfl) z_list (prg_1 (by rfl) z_range (pe_ix ix_tup (pv 0) pe_int (fun _ _ => rfl)))))
 (pss_cons (ps_set (i := 2) sc_rounds.nd rfl (.inl rfl) (pe_un un_neg pe_int))
 (pss_cons (ps_while PassesOwn.never (pt_cmpR op_ne (pv 2) (pe_callB (id := "len") call_len_seq (by rfl) z_len (by decide +kernel) (pa_cons (pv 1) pa_nil)) (nomark _)) (pss_cons (ps_set (i := 2) sc_rounds.nd rfl (.inl rfl) (pe_callB (id := "len") call_len_seq (by rfl) z_len (by decide +kernel) (pa_cons (pv 1) pa_nil)))
 (pss_one (ps_set (i := 1) sc_rounds.nd rfl (.inl rfl) (pe_callB (id := "sorted") (cr_srtSet rfl) (by rfl) z_sorted (by decide +kernel) (pa_cons (pe_callTy (cr_setI rfl) (by rfl) z_set (by decide +kernel) (pa_cons (pe_lc (own := [("one", 7)]) (by rfl) sc_rounds.nd (pi_list (pv 1)) (blkOk_by (own := [("one", 7)]) (N := ["rule", "left", "many", "gone", "lengths", "start", "length", "one"]) (sc := defScope s_rounds) (by decide +kernel)) (fun _ _ _ _ _ => pg_name (i := 7) sc_rounds.nd rfl (Or.inl rfl)) (fun _ _ _ _ _ => pts_nil) (fun _ _ _ _ _ => (pe_op op_mod (pe_op op_add (pe_op op_mulB (pe_ix (ix_tup : IxR _ (rIxT K)) (pv 0) pe_int (fun _ _ => rfl)) (pv 7)) (pe_ix (ix_tup : IxR _ (rIxT K)) (pv 0) pe_int (fun _ _ => rfl))) (pe_ix (ix_tup : IxR _ (rIxT K)) (pv 0) pe_int (fun _ _ => rfl))))) pa_nil)) pa_nil))))))
 (pss_cons (ps_set (i := 3) sc_rounds.nd rfl (.inl rfl) pe_dnewK)
 (pss_cons (ps_set (i := 4) sc_rounds.nd rfl (.inr rfl) (pe_lst pa_nil))
 (pss_cons (ps_for PassesOwn.never rfl (pi_list (pv 1)) (pg_name (i := 5) sc_rounds.nd rfl (.inl rfl)) (pss_cons (ps_set (i := 6) sc_rounds.nd rfl (.inl rfl) pe_int)
 (pss_cons (ps_set (i := 7) sc_rounds.nd rfl (.inl rfl) (pv 5))
 (pss_cons (ps_while PassesOwn.never (pt_cmp (pc_dnotin (hu_of hr) (pv 7) (pv 3))) (pss_cons (ps_dput (hu_of hr) (pv 3) (pv 7) pe_bl rfl)
 (pss_cons (ps_set (i := 6) sc_rounds.nd rfl (.inl rfl) (pe_op op_add (pv 6) pe_int))
 (pss_one (ps_set (i := 7) sc_rounds.nd rfl (.inl rfl) (pe_op op_mod (pe_op op_add (pe_op op_mulB (pe_ix ix_tup (pv 0) pe_int (fun _ _ => rfl)) (pv 7)) (pe_ix ix_tup (pv 0) pe_int (fun _ _ => rfl))) (pe_ix ix_tup (pv 0) pe_int (fun _ _ => rfl))))))))
 (pss_one (ps_if (pt_cmpR op_gt (pv 6) pe_int (nomark _)) (pss_one (ps_expr (pe_bm PySem.F.plainAttrs_list PySem.F.slot_list_append PySem.F.type_list_append mt_append (pv 4) (pa_cons (pv 6) pa_nil)))) pss_nil))))))
 (pss_one (ps_ret (pe_callTy call_tuple_of (by rfl) z_tuple (by decide +kernel) (pa_cons (pe_lc (own := [("length", 6)]) (by rfl) sc_rounds.nd (pi_list (pe_callB (id := "sorted") (cr_srtSet rfl) (by rfl) z_sorted (by decide +kernel) (pa_cons (pe_callTy (cr_setI rfl) (by rfl) z_set (by decide +kernel) (pa_cons (pv 4) pa_nil)) pa_nil))) (blkOk_by (own := [("length", 6)]) (N := ["rule", "left", "many", "gone", "lengths", "start", "length", "one"]) (sc := defScope s_rounds) (by decide +kernel)) (fun _ _ _ _ _ => pg_name (i := 6) sc_rounds.nd rfl (Or.inl rfl)) (fun _ _ _ _ _ => pts_nil) (fun _ _ _ _ _ => (pe_tup (pa_cons (pv 6) (pa_cons (bm_in (K := K) (r := rCntI K) rfl PySem.F.plainAttrs_list PySem.F.slot_list_count PySem.F.type_list_count mt_lcount (pv 4) (pa_cons (pv 6) pa_nil)) pa_nil))))) pa_nil)))))))))), ?_⟩
  have m0 : 0 < m := by have := R.b1; omega
  have t0 := R.t0
  have t1 := R.t1
  have fr : ∀ x, 0 ≤ stp t p m x ∧ stp t p m x < m := fun x => stp_rng m0 x
  refine ⟨_, rfl, r, _, 2, .int m, rfl, rfl, hr1, rfl, m, rfl, RgOk.of_le (by decide) (by omega) (by decide) (by omega), fun l0 nl0 => ?_⟩
  rw [rg_alls]
  have s0 := same_new (o := .lst ((alls m).map V.int)) nl0
  refine ⟨_, rfl, ?_⟩
  refine ⟨fun k σ H' => ∃ (l : Addr) (left : List Int) (mn : Int), σ = [some (.ref r), some (.ref l), some (.int mn), none, none, none, none, none] ∧ Same H H' ∧ H' l = some (.lst (left.map V.int)) ∧ LI (stp t p m) m left mn ∧ left.length ≤ 2000 ∧ k = 2 * left.length + (if mn = left.length then 0 else 1),
    ⟨_, l0, alls m, -1, rfl, s0, upd_same, LI.first fr, by rw [alls_len]; omega, rfl⟩, ?_⟩
  rintro k σ H1 ⟨l, left, mn, rfl, sm, hl, I1, ln, hk⟩
  refine ⟨_, rfl, _, rfl, l, _, rfl, .inl (SqL.of hl), rfl, _, rfl, ?_⟩
  rw [List.length_map]
  refine ifNI (fun nz => ?_) (fun ez => ?_)
  · -- a turn
    rw [if_neg nz] at hk
    refine ⟨fun σ' H' => ∃ k', k' < k ∧ ∃ (l : Addr) (left : List Int) (mn : Int), σ' = [some (.ref r), some (.ref l), some (.int mn), none, none, none, none, none] ∧ Same H H' ∧ H' l = some (.lst (left.map V.int)) ∧ LI (stp t p m) m left mn ∧ left.length ≤ 2000 ∧ k' = 2 * left.length + (if mn = left.length then 0 else 1), fun _ _ z => z, ?_⟩
    refine ⟨_, rfl, l, _, rfl, .inl (SqL.of hl), ?_⟩
    refine ⟨_, rfl, l, rfl, ⟨_, SqL.of hl⟩, fun L nL => ?_⟩
    have nlL : l ≠ L := ne_of_none hl nL
    have sL := same_new (o := .lst []) nL
    have sm2 := sm.trans sL
    refine lc_list (K := K) (a := l) (xs := left.map V.int) (fun i H' => H' = upd H1 L (.lst (((left.take i).map (stp t p m)).map V.int))) rfl ?_ ?_ ?_
    · rintro i H' _ rfl
      exact SqL.of (by rw [upd_ne nlL]; exact hl)
    · rintro i x H' hx rfl
      obtain ⟨z, hz, rfl⟩ : ∃ z, left[i]? = some z ∧ x = V.int z := by
        rw [List.getElem?_map] at hx
        cases ez : left[i]? with
        | none => rw [ez] at hx; cases hx
        | some z => rw [ez] at hx; exact ⟨z, rfl, (Option.some.inj hx).symm⟩
      have zr := I1.rg z (List.mem_of_getElem? hz)
      have il := (List.getElem?_eq_some_iff.mp hz).1
      have sm3 : Same H (upd H1 L (.lst (((left.take i).map (stp t p m)).map V.int))) := same_mut sm (sm.free nL)
      have hr2 := sm3.tup hr1
      refine ⟨rfl, yesT ?_⟩
      refine ⟨_, rfl, r, _, 0, .int t, rfl, rfl, hr2, rfl, _, rfl, _, _, rfl, rfl, ⟨by unfold Big; omega, by unfold Big; omega⟩, _, rfl, r, _, 1, .int p, rfl, rfl, hr2, rfl, _, _, rfl, rfl, _, rfl, r, _, 2, .int m, rfl, rfl, hr2, rfl, _, _, rfl, rfl, m0, _, upd_same, ?_, ?_⟩
      · rw [List.length_map, List.length_map, List.length_take]
        exact szl (by omega)
      · rw [upd_upd, List.take_add_one, hz, List.map_append, List.map_append]
        rfl
    · rintro H' rfl
      rw [List.length_map, List.take_length]
      have sm3 : Same H (upd H1 L (.lst ((left.map (stp t p m)).map V.int))) := same_mut sm (sm.free nL)
      refine ⟨L, left.map (stp t p m), rfl, SqL.of upd_same, by rw [List.length_map]; omega, fun ps c nps => ?_⟩
      have s4 := same_new (o := SetO w ps (fun j => decide (j ∈ left.map (stp t p m))) c) nps
      refine ⟨ps, _, c, rfl, upd_same, fun ns l2 up mem _ nl2 => ?_⟩
      have s5 := same_new (o := .lst (ns.map V.int)) nl2
      obtain ⟨I2, le⟩ := I1.step fr up fun k => by rw [mem k, decide_eq_true_eq]
      refine ⟨_, ?_, l2, ns, left.length, rfl, sm3.trans (s4.trans s5), upd_same, I2, by omega, rfl⟩
      split <;> omega
  · -- what is left
    have on := I1.on ez
    intro lg nlg
    have sg := same_new (o := .dK []) nlg
    refine ⟨by show 0 ≤ sizeLine; decide, fun ll nll => ?_⟩
    have sl := same_new (o := .lst []) nll
    have nlg' : H lg = none := sm.free nlg
    have nll1 : H1 ll = none := sg.free nll
    have nll' : H ll = none := sm.free nll1
    have ne : lg ≠ ll := ne_of_none (upd_same (H := H1)) nll
    have nel : l ≠ lg := ne_of_none hl nlg
    have nel2 : l ≠ ll := ne_of_none hl nll1
    have S0 := sg.trans sl
    have lp : ∀ x ∈ left, ∃ L, Per (stp t p m) L x := fun x hx => onto_per I1.rg on hx
    refine ⟨_, rfl, l, rfl, ⟨_, SqL.of (S0 _ _ hl)⟩, for_list (K := K) (a := l) (xs := left.map V.int) (fun i σ H' => ∃ (ws ls : List Int) (y5 y6 y7 : Option V), σ = [some (.ref r), some (.ref l), some (.int mn), some (.ref lg), some (.ref ll), y5, y6, y7] ∧ Same H1 H' ∧ H' lg = some (.dK (seenD ws)) ∧ H' ll = some (.lst (ls.map V.int)) ∧
      ws.Nodup ∧ Rng m ws ∧ Fcl (stp t p m) ws ∧ (∀ x ∈ left.take i, x ∈ ws) ∧ LenI (stp t p m) ws ls ∧ ls.length ≤ i) ⟨[], [], none, none, none, rfl, S0, ?_, upd_same, List.nodup_nil, (fun x hx => by cases hx), (fun x hx => by cases hx), (fun x hx => by simp at hx), LenI.nil _, Nat.le_refl 0⟩ ?_ ?_ ?_⟩
    · rw [upd_ne ne, upd_same]
      rfl
    · rintro i σ H2 _ ⟨ws, ls, y5, y6, y7, rfl, s2, hlg, hll, _⟩
      exact SqL.of (s2 _ _ hl)
    · rintro i x σ H2 hx ⟨ws, ls, y5, y6, y7, rfl, s2, hlg, hll, nd, rg, fc, cov, LN, ll0⟩
      obtain ⟨z, hz, rfl⟩ : ∃ z, left[i]? = some z ∧ x = V.int z := by
        rw [List.getElem?_map] at hx
        cases ez : left[i]? with
        | none => rw [ez] at hx; cases hx
        | some z => rw [ez] at hx; exact ⟨z, rfl, (Option.some.inj hx).symm⟩
      have zm := List.mem_of_getElem? hz
      have zr := I1.rg z zm
      have il := (List.getElem?_eq_some_iff.mp hz).1
      refine ⟨_, rfl, ?_⟩
      refine ⟨fun k σ H' => ∃ n : Nat, σ = [some (.ref r), some (.ref l), some (.int mn), some (.ref lg), some (.ref ll), some (.int z), some (.int n), some (.int (itr (stp t p m) n z))] ∧ Same H1 H' ∧ H' lg = some (.dK (seenD (ws ++ orb (stp t p m) n z))) ∧ H' ll = some (.lst (ls.map V.int)) ∧ (ws ++ orb (stp t p m) n z).Nodup ∧ Rng m (ws ++ orb (stp t p m) n z) ∧ k + (ws ++ orb (stp t p m) n z).length = m.toNat + 1,
        ⟨m.toNat + 1 - ws.length, 0, rfl, s2, ?_, hll, ?_, ?_, ?_⟩, ?_⟩
      · show _ = some (HO.dK (seenD (ws ++ [])))
        rw [List.append_nil]
        exact hlg
      · show (ws ++ []).Nodup
        rw [List.append_nil]
        exact nd
      · show Rng m (ws ++ [])
        rw [List.append_nil]
        exact rg
      · show _ + (ws ++ []).length = _
        rw [List.append_nil]
        have := int_len nd rg
        omega
      rintro k σ H3 ⟨n, rfl, s3, hlg3, hll3, nd3, rg3, hk3⟩
      have ir := itr_rng (t := t) (p := p) m0 zr n
      refine ⟨_, rfl, _, rfl, lg, _, rfl, DGet.k (k := Sum.inl (itr (stp t p m) n z)) hlg3, _, rfl, ?_⟩
      by_cases hin : itr (stp t p m) n z ∈ ws ++ orb (stp t p m) n z
      · rw [seenD_some hin]
        refine ifF rfl ?_
        have fc3 := fcl_walk fc hin
        have cov3 : ∀ x ∈ left.take (i + 1), x ∈ ws ++ orb (stp t p m) n z := by
          intro x hx
          rw [List.take_add_one, hz] at hx
          rcases List.mem_append.mp hx with hx | hx
          · exact List.mem_append_left _ (cov x hx)
          · obtain rfl : x = z := by simpa using hx
            cases n with
            | zero => exact hin
            | succ n => exact List.mem_append_right _ (orb_mem.mpr ⟨0, by omega, rfl⟩)
        refine ⟨_, rfl, _, _, rfl, rfl, _, rfl, ifD (fun n0 => ?_) (fun n0 => ?_)⟩
        · have en := walk_whole nd3 fc (lp z zm) (by omega) hin
          refine ⟨_, rfl, .inl ⟨rfl, _, SqL.of hll3⟩, _, rfl, ll, _, _, rfl, rfl, hll3, szl (by rw [List.length_map]; omega), ?_⟩
          refine ⟨ws ++ orb (stp t p m) n z, ls ++ [(n : Int)], _, _, _, rfl, same_mut s3 nll1, ?_, ?_, nd3, rg3, fc3, cov3, LN.new (by omega) en, by rw [List.length_append]; show ls.length + 1 ≤ i + 1; omega⟩
          · rw [upd_ne ne]
            exact hlg3
          · rw [upd_same, List.map_append]
            rfl
        · obtain rfl : n = 0 := by omega
          refine ⟨_, ls, _, _, _, rfl, s3, hlg3, hll3, nd3, rg3, fc3, cov3, ?_, by omega⟩
          show LenI _ (ws ++ []) ls
          rw [List.append_nil]
          exact LN
      · rw [seenD_none hin]
        refine ifT rfl ?_
        have eo : ws ++ orb (stp t p m) (n + 1) z = (ws ++ orb (stp t p m) n z) ++ [itr (stp t p m) n z] := by rw [orb_succ, List.append_assoc]
        have nd4 := nodup_snoc nd3 hin
        have rg4 := rng_snoc rg3 ir
        have wl4 := int_len nd4 rg4
        rw [List.length_append] at wl4
        have h1 : ([itr (stp t p m) n z] : List Int).length = 1 := rfl
        obtain ⟨k, rfl⟩ : ∃ j, k = j + 1 := ⟨k - 1, by omega⟩
        refine ⟨fun σ' H' => ∃ n : Nat, σ' = [some (.ref r), some (.ref l), some (.int mn), some (.ref lg), some (.ref ll), some (.int z), some (.int n), some (.int (itr (stp t p m) n z))] ∧ Same H1 H' ∧ H' lg = some (.dK (seenD (ws ++ orb (stp t p m) n z))) ∧ H' ll = some (.lst (ls.map V.int)) ∧ (ws ++ orb (stp t p m) n z).Nodup ∧ Rng m (ws ++ orb (stp t p m) n z) ∧ k + (ws ++ orb (stp t p m) n z).length = m.toNat + 1, fun _ _ z => ⟨k, Nat.lt_succ_self k, z⟩, ?_⟩
        have sl2 : (seenD (ws ++ orb (stp t p m) n z)).length = (ws ++ orb (stp t p m) n z).length := List.length_map ..
        refine ⟨_, rfl, _, rfl, lg, _, rfl, DPut.k (k := Sum.inl (itr (stp t p m) n z)) hlg3 (szM (by rw [sl2]; omega)), ?_⟩
        have s4 : Same H1 (upd H3 lg (.dK (putK (seenD (ws ++ orb (stp t p m) n z)) (Sum.inl (itr (stp t p m) n z)) (.bl true)))) := same_mut s3 nlg
        have hr4 := (sm.trans s4).tup hr1
        refine ⟨_, rfl, _, _, rfl, rfl, ?_⟩
        refine ⟨_, rfl, r, _, 0, .int t, rfl, rfl, hr4, rfl, _, rfl, _, _, rfl, rfl, ⟨by unfold Big; omega, by unfold Big; omega⟩, _, rfl, r, _, 1, .int p, rfl, rfl, hr4, rfl, _, _, rfl, rfl, _, rfl, r, _, 2, .int m, rfl, rfl, hr4, rfl, _, _, rfl, rfl, m0, ?_⟩
        refine ⟨n + 1, rfl, s4, ?_, ?_, ?_, ?_, ?_⟩
        · rw [upd_same, putK_new _ (seenD_none hin), eo, seenD_snoc]
        · rw [upd_ne (Ne.symm ne)]
          exact hll3
        · rw [eo]; exact nd4
        · rw [eo]; exact rg4
        · rw [eo, List.length_append]; omega
    · rintro σ H2 ⟨ws, ls, y5, y6, y7, rfl, s2, hlg, hll, nd, rg, fc, cov, LN, ll0⟩
      rw [List.length_map] at cov ll0
      rw [List.take_length] at cov
      have all := fun L => nper_of (f := stp t p m) nd rg (fun x x0 x1 hp => cov x (I1.per x x0 x1 hp)) L
      refine ⟨_, rfl, ll, ls, rfl, SqL.of hll, by omega, fun ps c nps => ?_⟩
      have s4 := same_new (o := SetO w ps (fun j => decide (j ∈ ls)) c) nps
      refine ⟨ps, _, c, rfl, upd_same, fun ns l2 up mem _ nl2 => ?_⟩
      have s5 := same_new (o := .lst (ns.map V.int)) nl2
      have S5 := s4.trans s5
      refine ⟨l2, rfl, ⟨_, SqL.of upd_same⟩, fun L nL => ?_⟩
      have sL := same_new (o := .lst []) nL
      have nl2L : l2 ≠ L := ne_of_none (upd_same) nL
      have nlen : ns.length ≤ 2000 := by
        have := sub_len (up_nodup up) (k := ls) fun x hx => by
          have := (mem x).mp hx
          exact of_decide_eq_true this
        omega
      refine lc_list (K := K) (a := l2) (xs := ns.map V.int) (fun i H' => ∃ zs : List (Addr × (Int × Int)), Same (upd (upd H2 ps (SetO w ps (fun j => decide (j ∈ ls)) c)) l2 (.lst (ns.map V.int))) H' ∧ H' L = some (.lst (zs.map fun z => V.ref z.1)) ∧ zs.map (·.2) = (ns.take i).map (fun k => (k, ((ls.count k : Nat) : Int))) ∧ ∀ z ∈ zs, H' z.1 = some (.tup [.int z.2.1, .int z.2.2])) ⟨[], sL, upd_same, rfl, fun z hz => by cases hz⟩ ?_ ?_ ?_
      · rintro i H' _ ⟨zs, sm', _⟩
        exact SqL.of (sm' _ _ upd_same)
      · rintro i x H' hx ⟨zs, s6, hL, ez, hz⟩
        obtain ⟨k, hk, rfl⟩ : ∃ z, ns[i]? = some z ∧ x = V.int z := by
          rw [List.getElem?_map] at hx
          cases ez : ns[i]? with
          | none => rw [ez] at hx; cases hx
          | some z => rw [ez] at hx; exact ⟨z, rfl, (Option.some.inj hx).symm⟩
        have il := (List.getElem?_eq_some_iff.mp hk).1
        have hll6 := s6 _ _ (S5 _ _ hll)
        refine ⟨rfl, yesT ?_⟩
        refine ⟨_, rfl, _, rfl, .inl ⟨rfl, _, SqL.of hll6⟩, _, rfl, ll, ls, k, rfl, rfl, SqL.of hll6, by show 2 ≤ sizeLine; decide, fun u nu => ?_⟩
        have s7 := same_new (o := .tup [.int k, .int ((ls.count k : Nat) : Int)]) nu
        have uL : u ≠ L := fun e => by rw [e, hL] at nu; cases nu
        refine ⟨_, s7 _ _ hL, ?_, zs ++ [(u, (k, ((ls.count k : Nat) : Int)))], ?_, ?_, ?_, ?_⟩
        · have : zs.length = i := by
            have := congrArg List.length ez
            rw [List.length_map, List.length_map, List.length_take] at this
            omega
          rw [List.length_map]
          exact szl (by omega)
        · refine same_mut (s6.trans s7) nL
        · rw [upd_same, List.map_append]
          rfl
        · rw [List.map_append, ez, List.take_add_one, hk, List.map_append]
          rfl
        · intro z hzm
          have zt : (upd H' u (.tup [.int k, .int ((ls.count k : Nat) : Int)])) z.1 = some (.tup [.int z.2.1, .int z.2.2]) := by
            rcases List.mem_append.mp hzm with hzm | hzm
            · exact s7 _ _ (hz z hzm)
            · rw [List.mem_singleton.mp hzm]
              exact upd_same
          rw [upd_ne (fun e => by rw [e, s7 _ _ hL] at zt; cases zt)]
          exact zt
      · rintro H' ⟨zs, s6, hL, ez, hz⟩
        rw [List.length_map, List.take_length] at ez
        refine ⟨L, _, rfl, .inl ⟨SqL.of hL, fun u nu => ?_⟩⟩
        have s7 := same_new (o := .tup (zs.map fun z => V.ref z.1)) nu
        have S := sm.trans (s2.trans (S5.trans s6))
        refine q _ u zs (S.trans s7) (S.free nu) ⟨upd_same, fun z hzm => s7 _ _ (hz z hzm)⟩ ?_
        rw [ez]
        exact LN.rds all up fun k => by rw [mem k, decide_eq_true_eq]
theorem ok_law {fL : Addr} {fdL : FuncData} (F : Fun K "law" "law" s_law fL fdL) (h_deck : Has P w K mg base CX0 1 "_law_deck" ["script"] (sp1 (pDeck K))) (h_rule : Has P w K mg base CX0 5 "_law_rule" ["deck", "most"] (sp2 pRule))
    (h_rounds : Has P w K mg base CX0 1 "_law_rounds" ["rule"] (sp1 (pAllR K))) (h_all_rounds : Has P w K mg base CX0 6 "all_rounds" ["rule"] (sp1 (pAllR K)))
    (z_range : mg "range" = none) (z_isinstance : mg "isinstance" = none) (z_tuple : mg "tuple" = none) (z_bool : mg "bool" = none) :
    FnOk P w K mg base CX0 8 fL fdL ["script"] (sp1 fun a H Q _ => ∃ (sa : Addr) (xs : List Int), a = .ref sa ∧ SqL K H sa (xs.map V.int) ∧ ∀ H', Q (.bl true) H') := by
  refine F.ok sc_law (fun vs H Q E h => by obtain ⟨_, rfl, _⟩ := h; rfl) (fun cdv A outer s H vs Q E hr h => ?_)
  obtain ⟨v1, rfl, sa, xs, rfl, hS, q⟩ := h
  refine ⟨_, (pss_cons (ps_set (i := 1) sc_law.nd rfl (.inl rfl) (pe_own h_deck (hr.mono (by decide)) pass0 (pa_cons (pv 0) pa_nil)))
 (pss_cons (ps_for PassesOwn.never rfl (pi_range1 (by rfl) z_range (pa_cons pe_int pa_nil)) (pg_name (i := 2) sc_law.nd rfl (.inl rfl)) (pss_cons (ps_set (i := 3) sc_law.nd rfl (.inl rfl) (pe_own h_rule (hr.mono (by decide)) pass0 (pa_cons (pv 1) (pa_cons pe_int pa_nil))))
 (pss_cons (ps_set (i := 4) sc_law.nd rfl (.inl rfl) (pe_own h_rounds (hr.mono (by decide)) pass0 (pa_cons (pv 3) pa_nil)))
 (pss_one (ps_for PassesOwn.never rfl (pi_range1 (by rfl) z_range (pa_cons pe_int pa_nil)) (pg_name (i := 5) sc_law.nd rfl (.inl rfl)) (pss_cons (ps_set (i := 6) sc_law.nd rfl (.inl rfl) (pe_own h_all_rounds (hr.mono (by decide)) pass0 (pa_cons (pv 3) pa_nil)))
 (pss_cons (ps_if (PW.pt (pw_or (pt_not (pt_val (pe_callB (id := "isinstance") call_isA (by rfl) z_isinstance (by decide +kernel) (pa_cons (pv 6) (pa_cons (pe_bltn (v := .ty "tuple") (by rfl) z_tuple (by decide +kernel) rfl) pa_nil))))) (pw_or1 (pt_cmpR (op_neD hr.units) (pv 6) (pv 4) (nomark _))))) (pss_one (ps_ret pe_bl)) pss_nil)
 (pss_one (ps_for PassesOwn.never rfl (pi_tup (pv 6)) (pg_name (i := 7) sc_law.nd rfl (.inl rfl)) (pss_one (ps_if (PW.pt (pw_or (pt_not (pt_val (pe_callB (id := "isinstance") call_isA (by rfl) z_isinstance (by decide +kernel) (pa_cons (pv 7) (pa_cons (pe_bltn (v := .ty "tuple") (by rfl) z_tuple (by decide +kernel) rfl) pa_nil))))) (pw_or1 (pt_cmpR (op_neD hr.units) (pe_lc (own := [("one", 8)]) (by rfl) sc_law.nd (pi_tup (pv 7)) (blkOk_by (own := [("one", 8)]) (N := ["script", "deck", "turn", "rule", "due", "again", "found", "pair", "one"]) (sc := defScope s_law) (by decide +kernel)) (fun _ _ _ _ _ => pg_name (i := 8) sc_law.nd rfl (Or.inl rfl)) (fun _ _ _ _ _ => pts_one (pt_val (pe_callB (id := "isinstance") (r := rIsA K) call_isA (by rfl) z_isinstance (by decide +kernel) (pa_cons (pv 8) (pa_cons (pe_bltn (v := .ty "bool") (by rfl) z_bool (by decide +kernel) rfl) pa_nil))))) (fun _ _ _ _ _ => (pv 8))) (pe_lst pa_nil) (nomark _))))) (pss_one (ps_ret pe_bl)) pss_nil)))))))))))
 (pss_one (ps_ret (pe_and (pe_cmpR (op_eqD hr.units) (pe_own h_all_rounds (hr.mono (by decide)) pass0 (pa_cons (pe_tup (pa_cons pe_int (pa_cons pe_int (pa_cons pe_int pa_nil)))) pa_nil)) (pe_tup (pa_cons (pe_tup (pa_cons pe_int (pa_cons pe_int pa_nil))) pa_nil)) (nomark _)) (pe_one (pe_cmpR (op_eqD hr.units) (pe_own h_all_rounds (hr.mono (by decide)) pass0 (pa_cons (pe_tup (pa_cons pe_int (pa_cons pe_int (pa_cons pe_int pa_nil)))) pa_nil)) (pe_tup (pa_cons (pe_tup (pa_cons pe_int (pa_cons pe_int pa_nil))) (pa_cons (pe_tup (pa_cons pe_int (pa_cons pe_int pa_nil))) pa_nil))) (nomark _)))))))), ?_⟩
  refine ⟨_, rfl, _, rfl, sa, xs, rfl, hS, fun H1 d s1 nd D1 => ?_⟩
  refine ⟨5, rfl, by decide, by decide, for_range (lo := 0) (n := 5) (fun i σ H' => ∃ (y2 y3 y4 y5 y6 y7 : Option V), σ = [some (.ref sa), some (.ref d), y2, y3, y4, y5, y6, y7, none] ∧ Deck H' d (200 * i)) ⟨none, none, none, none, none, none, rfl, D1⟩ ?_ ?_⟩
  · rintro i σ H2 hi ⟨y2, y3, y4, y5, y6, y7, rfl, D2⟩
    refine ⟨_, rfl, _, _, rfl, d, 200 * i, 2000, rfl, rfl, by decide, by decide, D2, by omega, fun H3 r t p b B3 D3 nr hr3 R bM => ?_⟩
    refine ⟨_, rfl, _, rfl, r, t, p, b, rfl, SqT.of hr3, R, by omega, fun H4 q4 ps4 s4 n4 T4 R4 => ?_⟩
    refine ⟨2, rfl, by decide, by decide, for_range (lo := 0) (n := 2) (fun j σ H' => ∃ (y5 y6 y7 : Option V), σ = [some (.ref sa), some (.ref d), some (.int (0 + i)), some (.ref r), some (.ref q4), y5, y6, y7, none] ∧ Same H4 H') ⟨y5, y6, y7, rfl, fun _ _ z => z⟩ ?_ ?_⟩
    · rintro j σ H5 hj ⟨z5, z6, z7, rfl, s5⟩
      refine ⟨_, rfl, _, rfl, r, t, p, b, rfl, SqT.of (s5 _ _ (s4 _ _ hr3)), R, by omega, fun H6 q6 ps6 s6 n6 T6 R6 => ?_⟩
      have e6 := R6.uniq R4
      refine ⟨_, rfl, .inr ⟨_, _, _, _, true, rfl, .ty _, .base (.tup T6.1), kit_ty (by decide +kernel), _, rfl, ifF rfl ?_⟩⟩
      refine ⟨_, rfl, _, rfl, dPairs (ps6.map (·.2)), dPairs (ps4.map (·.2)), T6.dp, (T4.same (s5.trans s6)).dp, shp_pairs _, shp_pairs _, _, rfl, ifF (by rw [e6, eqv_self (shp_pairs _)]; rfl) ?_⟩
      refine ⟨_, rfl, q6, rfl, ⟨_, SqT.of T6.1⟩, for_tup (K := K) (a := q6) (xs := ps6.map fun z => V.ref z.1) (fun k σ H' => ∃ (y7 : Option V), σ = [some (.ref sa), some (.ref d), some (.int (0 + i)), some (.ref r), some (.ref q4), some (.int (0 + j)), some (.ref q6), y7, none] ∧ Same H6 H') ⟨z7, rfl, fun _ _ z => z⟩ ?_ ?_ ?_⟩
      · rintro k σ H7 _ ⟨y7, rfl, s7⟩
        exact SqT.of (s7 _ _ T6.1)
      · rintro k x σ H7 hx ⟨y7, rfl, s7⟩
        obtain ⟨z, hz, rfl⟩ := List.mem_map.mp (List.mem_of_getElem? hx)
        have hz7 := s7 _ _ (T6.2 z hz)
        refine ⟨_, rfl, .inr ⟨_, _, _, _, true, rfl, .ty _, .base (.tup hz7), kit_ty (by decide +kernel), _, rfl, ifF rfl ?_⟩⟩
        refine ⟨_, rfl, z.1, rfl, ⟨_, SqT.of hz7⟩, fun L nL => ?_⟩
        have sL := same_new (o := .lst []) nL
        refine lc_tup (K := K) (a := z.1) (xs := [.int z.2.1, .int z.2.2]) (fun i H' => H' = upd H7 L (.lst [])) rfl ?_ ?_ ?_
        · rintro i H' _ rfl
          exact SqT.of (sL _ _ hz7)
        · rintro i x H' hx rfl
          obtain ⟨z, rfl⟩ : ∃ z, x = V.int z := by
            have := List.mem_of_getElem? hx
            simp at this
            rcases this with e | e
            · exact ⟨_, e⟩
            · exact ⟨_, e⟩
          exact ⟨rfl, _, rfl, .inr ⟨_, _, _, _, false, rfl, .ty _, .base (.int z), kit_ty (by decide +kernel), _, rfl, ifF rfl rfl⟩⟩
        · rintro H' rfl
          refine ⟨by show 0 ≤ sizeLine; decide, fun L2 nL2 => ?_⟩
          have sL2 := same_new (o := .lst []) nL2
          refine ⟨.list [], .list [], .lst (SqL.of (sL2 _ _ upd_same)) .nil, .lst (SqL.of upd_same) .nil, rfl, rfl, _, rfl, ifF (by rw [eqv_self rfl]; rfl) ?_⟩
          exact ⟨some (.ref z.1), rfl, s7.trans (sL.trans sL2)⟩
      · rintro σ H7 ⟨y7, rfl, s7⟩
        exact ⟨some (.int (0 + j)), some (.ref q6), y7, rfl, s5.trans (s6.trans s7)⟩
    · rintro σ H5 ⟨z5, z6, z7, rfl, s5⟩
      exact ⟨some (.int (0 + i)), some (.ref r), some (.ref q4), z5, z6, z7, rfl, (D3.same (s4.trans s5)).mono (by omega)⟩
  · rintro σ H2 ⟨y2, y3, y4, y5, y6, y7, rfl, D2⟩
    refine ⟨by show 3 ≤ sizeLine; decide, fun a na => ?_⟩
    refine ⟨_, rfl, a, 0, 0, 1, rfl, SqT.of upd_same, ⟨by decide, by decide, by decide, by decide, by decide, by decide⟩, by decide, fun H3 q3 ps3 s3 n3 T3 R3 => ?_⟩
    refine ⟨by show 2 ≤ sizeLine; decide, fun a4 na4 => ?_⟩
    have s4 := same_new (o := .tup [.int 1, .int 1]) na4
    refine ⟨by show 1 ≤ sizeLine; decide, fun a5 na5 => ?_⟩
    have s5 := same_new (o := .tup [.ref a4]) na5
    have T5 := T3.same (s4.trans s5)
    refine ⟨dPairs (ps3.map (·.2)), dPairs [(1, 1)], T5.dp, .tup (SqT.of upd_same) (.cons (.tup (SqT.of (s5 _ _ upd_same)) (.cons (.int _) (.cons (.int _) .nil))) .nil), shp_pairs _, shp_pairs _, _, rfl, ifT (by rw [R3.uniq rds_001, eqv_self (shp_pairs _)]) ?_⟩
    refine ⟨by show 3 ≤ sizeLine; decide, fun b nb => ?_⟩
    refine ⟨_, rfl, b, 2, 0, 5, rfl, SqT.of upd_same, ⟨by decide, by decide, by decide, by decide, by decide, by decide⟩, by decide, fun H6 q6 ps6 s6 n6 T6 R6 => ?_⟩
    refine ⟨by show 2 ≤ sizeLine; decide, fun a7 na7 => ?_⟩
    have s7 := same_new (o := .tup [.int 1, .int 1]) na7
    refine ⟨by show 2 ≤ sizeLine; decide, fun a8 na8 => ?_⟩
    have s8 := same_new (o := .tup [.int 4, .int 1]) na8
    refine ⟨by show 2 ≤ sizeLine; decide, fun a9 na9 => ?_⟩
    have s9 := same_new (o := .tup [.ref a7, .ref a8]) na9
    have T9 := T6.same (s7.trans (s8.trans s9))
    refine ⟨dPairs (ps6.map (·.2)), dPairs [(1, 1), (4, 1)], T9.dp, .tup (SqT.of upd_same) (.cons (.tup (SqT.of (s9 _ _ (s8 _ _ upd_same))) (.cons (.int _) (.cons (.int _) .nil))) (.cons (.tup (SqT.of (s9 _ _ upd_same)) (.cons (.int _) (.cons (.int _) .nil))) .nil)), shp_pairs _, shp_pairs _, ?_⟩
    rw [R6.uniq rds_205, eqv_self (shp_pairs _)]
    exact q _
end
end Tw


namespace Tw
open PySem PySem.Spec PyProof.Rows L2

def spLaw (K : PySem.W.Frag) : Sp := sp1 fun a H Q _ => ∃ (sa : Addr) (xs : List Int), a = .ref sa ∧ SqL K H sa (xs.map V.int) ∧ ∀ H', Q (.bl true) H'
theorem all_mk {l : PySem.W.OpenLaw} {w : World} {K : PySem.W.Frag} {h : Heap} {mg : Str → Option Value} {fa CR CN f0 f1 f2 f3 f4 f5 f6 f7 f8 f9 f10 f11 f12 f13 fI Nn : Addr} (X : K.In h) (G : h.Ns mainGlobals mg) (hfa : mg "law" = some (.ref fa))
    {oc0 kV0 dc0 pm0 cd0 ct0 : Value} {od0 an0 : Option Addr} {sl0 : Array (Option Value)}
    {oc1 kV1 dc1 pm1 cd1 ct1 : Value} {od1 an1 : Option Addr} {sl1 : Array (Option Value)}
    {oc2 kV2 dc2 pm2 cd2 ct2 : Value} {od2 an2 : Option Addr} {sl2 : Array (Option Value)}
    {oc3 kV3 dc3 pm3 cd3 ct3 : Value} {od3 an3 : Option Addr} {sl3 : Array (Option Value)}
    {oc4 kV4 dc4 pm4 cd4 ct4 : Value} {od4 an4 : Option Addr} {sl4 : Array (Option Value)}
    {oc5 kV5 dc5 pm5 cd5 ct5 : Value} {od5 an5 : Option Addr} {sl5 : Array (Option Value)}
    {oc6 kV6 dc6 pm6 cd6 ct6 : Value} {od6 an6 : Option Addr} {sl6 : Array (Option Value)}
    {oc7 kV7 dc7 pm7 cd7 ct7 : Value} {od7 an7 : Option Addr} {sl7 : Array (Option Value)}
    {oc8 kV8 dc8 pm8 cd8 ct8 : Value} {od8 an8 : Option Addr} {sl8 : Array (Option Value)}
    {oc9 kV9 dc9 pm9 cd9 ct9 : Value} {od9 an9 : Option Addr} {sl9 : Array (Option Value)}
    {oc10 kV10 dc10 pm10 cd10 ct10 : Value} {od10 an10 : Option Addr} {sl10 : Array (Option Value)}
    {oc11 kV11 dc11 pm11 cd11 ct11 : Value} {od11 an11 : Option Addr} {sl11 : Array (Option Value)}
    {oc12 kV12 dc12 pm12 cd12 ct12 : Value} {od12 an12 : Option Addr} {sl12 : Array (Option Value)}
    {oc13 kV13 dc13 pm13 cd13 ct13 : Value} {od13 an13 : Option Addr} {sl13 : Array (Option Value)}
    {nm qn : Str} {bs : List Value} {sn : List Str} {sub : List Value} {ab : Bool} {col : Option Bool} {dd : Option Addr} {m0 m1 m2 m3 m5 : Option Value} {ocI kVI dcI pmI cdI ctI : Value} {odI anI : Option Addr} {slI : Array (Option Value)}
    (aCR : PySem.W.nsIn K mainGlobals "RowError" = some (some (.ref CR)))
    (aCN : PySem.W.nsIn K mainGlobals "NoNumber" = some (some (.ref CN)))
    (a0 : PySem.W.nsIn K mainGlobals "_law_mix" = some (some (.ref f0)))
    (l0 : K.lookup f0 = some ⟨oc0, od0, .func (PySem.W.fnOf "_law_mix" "_law_mix" (defArgs s_mix) (defBody s_mix) (defScope s_mix) .none kV0 dc0 pm0 an0 cd0 ct0), sl0⟩)
    (c0 : PySem.W.codeIn K cd0 "_law_mix" = true)
    (k0 : PySem.W.keepIn K (.ref f0) = true)
    (a1 : PySem.W.nsIn K mainGlobals "_law_deck" = some (some (.ref f1)))
    (l1 : K.lookup f1 = some ⟨oc1, od1, .func (PySem.W.fnOf "_law_deck" "_law_deck" (defArgs s_deck) (defBody s_deck) (defScope s_deck) .none kV1 dc1 pm1 an1 cd1 ct1), sl1⟩)
    (c1 : PySem.W.codeIn K cd1 "_law_deck" = true)
    (k1 : PySem.W.keepIn K (.ref f1) = true)
    (a2 : PySem.W.nsIn K mainGlobals "_law_next" = some (some (.ref f2)))
    (l2 : K.lookup f2 = some ⟨oc2, od2, .func (PySem.W.fnOf "_law_next" "_law_next" (defArgs s_next) (defBody s_next) (defScope s_next) .none kV2 dc2 pm2 an2 cd2 ct2), sl2⟩)
    (c2 : PySem.W.codeIn K cd2 "_law_next" = true)
    (k2 : PySem.W.keepIn K (.ref f2) = true)
    (a3 : PySem.W.nsIn K mainGlobals "_law_great" = some (some (.ref f3)))
    (l3 : K.lookup f3 = some ⟨oc3, od3, .func (PySem.W.fnOf "_law_great" "_law_great" (defArgs s_great) (defBody s_great) (defScope s_great) .none kV3 dc3 pm3 an3 cd3 ct3), sl3⟩)
    (c3 : PySem.W.codeIn K cd3 "_law_great" = true)
    (k3 : PySem.W.keepIn K (.ref f3) = true)
    (a4 : PySem.W.nsIn K mainGlobals "_law_bound" = some (some (.ref f4)))
    (l4 : K.lookup f4 = some ⟨oc4, od4, .func (PySem.W.fnOf "_law_bound" "_law_bound" (defArgs s_bound) (defBody s_bound) (defScope s_bound) .none kV4 dc4 pm4 an4 cd4 ct4), sl4⟩)
    (c4 : PySem.W.codeIn K cd4 "_law_bound" = true)
    (k4 : PySem.W.keepIn K (.ref f4) = true)
    (a5 : PySem.W.nsIn K mainGlobals "_law_rule" = some (some (.ref f5)))
    (l5 : K.lookup f5 = some ⟨oc5, od5, .func (PySem.W.fnOf "_law_rule" "_law_rule" (defArgs s_rule) (defBody s_rule) (defScope s_rule) .none kV5 dc5 pm5 an5 cd5 ct5), sl5⟩)
    (c5 : PySem.W.codeIn K cd5 "_law_rule" = true)
    (k5 : PySem.W.keepIn K (.ref f5) = true)
    (a6 : PySem.W.nsIn K mainGlobals "is_whole" = some (some (.ref f6)))
    (l6 : K.lookup f6 = some ⟨oc6, od6, .func (PySem.W.fnOf "is_whole" "is_whole" (defArgs s_is_whole) (defBody s_is_whole) (defScope s_is_whole) .none kV6 dc6 pm6 an6 cd6 ct6), sl6⟩)
    (c6 : PySem.W.codeIn K cd6 "is_whole" = true)
    (k6 : PySem.W.keepIn K (.ref f6) = true)
    (a7 : PySem.W.nsIn K mainGlobals "is_number" = some (some (.ref f7)))
    (l7 : K.lookup f7 = some ⟨oc7, od7, .func (PySem.W.fnOf "is_number" "is_number" (defArgs s_is_number) (defBody s_is_number) (defScope s_is_number) .none kV7 dc7 pm7 an7 cd7 ct7), sl7⟩)
    (c7 : PySem.W.codeIn K cd7 "is_number" = true)
    (k7 : PySem.W.keepIn K (.ref f7) = true)
    (a8 : PySem.W.nsIn K mainGlobals "check_number" = some (some (.ref f8)))
    (l8 : K.lookup f8 = some ⟨oc8, od8, .func (PySem.W.fnOf "check_number" "check_number" (defArgs s_check_number) (defBody s_check_number) (defScope s_check_number) .none kV8 dc8 pm8 an8 cd8 ct8), sl8⟩)
    (c8 : PySem.W.codeIn K cd8 "check_number" = true)
    (k8 : PySem.W.keepIn K (.ref f8) = true)
    (a9 : PySem.W.nsIn K mainGlobals "next_of" = some (some (.ref f9)))
    (l9 : K.lookup f9 = some ⟨oc9, od9, .func (PySem.W.fnOf "next_of" "next_of" (defArgs s_next_of) (defBody s_next_of) (defScope s_next_of) .none kV9 dc9 pm9 an9 cd9 ct9), sl9⟩)
    (c9 : PySem.W.codeIn K cd9 "next_of" = true)
    (k9 : PySem.W.keepIn K (.ref f9) = true)
    (a10 : PySem.W.nsIn K mainGlobals "walked_on" = some (some (.ref f10)))
    (l10 : K.lookup f10 = some ⟨oc10, od10, .func (PySem.W.fnOf "walked_on" "walked_on" (defArgs s_walked_on) (defBody s_walked_on) (defScope s_walked_on) .none kV10 dc10 pm10 an10 cd10 ct10), sl10⟩)
    (c10 : PySem.W.codeIn K cd10 "walked_on" = true)
    (k10 : PySem.W.keepIn K (.ref f10) = true)
    (a11 : PySem.W.nsIn K mainGlobals "all_rounds" = some (some (.ref f11)))
    (l11 : K.lookup f11 = some ⟨oc11, od11, .func (PySem.W.fnOf "all_rounds" "all_rounds" (defArgs s_all_rounds) (defBody s_all_rounds) (defScope s_all_rounds) .none kV11 dc11 pm11 an11 cd11 ct11), sl11⟩)
    (c11 : PySem.W.codeIn K cd11 "all_rounds" = true)
    (k11 : PySem.W.keepIn K (.ref f11) = true)
    (a12 : PySem.W.nsIn K mainGlobals "_law_rounds" = some (some (.ref f12)))
    (l12 : K.lookup f12 = some ⟨oc12, od12, .func (PySem.W.fnOf "_law_rounds" "_law_rounds" (defArgs s_rounds) (defBody s_rounds) (defScope s_rounds) .none kV12 dc12 pm12 an12 cd12 ct12), sl12⟩)
    (c12 : PySem.W.codeIn K cd12 "_law_rounds" = true)
    (k12 : PySem.W.keepIn K (.ref f12) = true)
    (a13 : PySem.W.nsIn K mainGlobals "law" = some (some (.ref f13)))
    (l13 : K.lookup f13 = some ⟨oc13, od13, .func (PySem.W.fnOf "law" "law" (defArgs s_law) (defBody s_law) (defScope s_law) .none kV13 dc13 pm13 an13 cd13 ct13), sl13⟩)
    (c13 : PySem.W.codeIn K cd13 "law" = true)
    (k13 : PySem.W.keepIn K (.ref f13) = true)
    (y_sum : PySem.W.nsIn K mainGlobals "sum" = some none)
    (y_len : PySem.W.nsIn K mainGlobals "len" = some none)
    (y_range : PySem.W.nsIn K mainGlobals "range" = some none)
    (y_isinstance : PySem.W.nsIn K mainGlobals "isinstance" = some none)
    (y_int : PySem.W.nsIn K mainGlobals "int" = some none)
    (y_bool : PySem.W.nsIn K mainGlobals "bool" = some none)
    (y_tuple : PySem.W.nsIn K mainGlobals "tuple" = some none)
    (y_list : PySem.W.nsIn K mainGlobals "list" = some none)
    (y_set : PySem.W.nsIn K mainGlobals "set" = some none)
    (y_sorted : PySem.W.nsIn K mainGlobals "sorted" = some none)
    (xCNhc : PySem.W.isClsIn K CN = true)
    (xCNhg : PySem.W.findIn K (.ref CN) "__getattribute__" = some (some (.builtin "BaseException.__getattribute__")))
    (xCNhk : PySem.W.findIn K (.ref CN) "__getattr__" = some none)
    (xCNhs : PySem.W.subIn K (.ref CN) (.type "BaseException") = some true)
    (xCNhd : PySem.W.hasDictIn K CN = true)
    (xCNha : PySem.W.findIn K (.ref CN) "__class__" = some (some (.builtin "object.__class__")))
    (xCNhm : PySem.W.mroIn K CN (.type "object") = some true)
    (gn : PySem.W.specialIn K (.builtin "object.__class__") "__get__" = some (some (.builtin "getset_descriptor.__get__")))
    (gt : PySem.W.takesIn K (.builtin "object.__class__") = some true)
    (xCNkr : PySem.W.kitOne K (.ref CN) (.ref CR) = some true)
    (xCNkv : PySem.W.kitOne K (.ref CN) (.type "ValueError") = some true)
    (xCNkCN : PySem.W.kitOne K (.ref CN) (.ref CN) = some true)
    (xCNxm : PySem.W.exmOne K (.ref CN) (.ref CR) = some true)
    (xL : K.lookup CN = some (excClassObj nm qn CN Nn bs [.ref CR, .type "ValueError", .type "Exception", .type "BaseException", .type "object"] true sn sub ab col dd m0 m1 m2 m3 m5 "ValueError.__new__"))
    (sa : PySem.W.findIn K (.ref CN) "__setattr__" = some (some (.builtin "object.__setattr__")))
    (tyC : PySem.W.typeIn K (.ref CN) = some (.type "type"))
    (kC : PySem.W.keepIn K (.ref CN) = true)
    (nf : PySem.W.findIn K (.ref CN) "number" = some none)
    (iI : PySem.W.findIn K (.ref CN) "__init__" = some (some (.ref fI)))
    (tI : PySem.W.typeIn K (.ref fI) = some (.type "function"))
    (lI : K.lookup fI = some ⟨ocI, odI, .func (PySem.W.fnOf "__init__" "NoNumber.__init__" (defArgs s_init) (defBody s_init) (defScope s_init) .none kVI dcI pmI anI cdI ctI), slI⟩)
    (cI : PySem.W.codeIn K cdI "NoNumber.__init__" = true)
    (kI : PySem.W.keepIn K (.ref fI) = true)
    (rd : PySem.W.readsIn K CR (.type "type") = true)
    (rg : PySem.W.specialIn K (.ref CR) "__getattribute__" = some (some (.builtin "type.__getattribute__")))
    (ri : PySem.W.findCls K (.ref CR) (.type "type") "__init__" = some (.val (.builtin "ValueError.__init__"))) :
    ∃ fd : FuncData, (∀ (s : Shared) (v : Value), BindsTo s fd ⟨[v], []⟩ [("script", v)]) ∧ ∀ base : Heap, K.In base → base.Ns mainGlobals mg → FnOk l.prog w K mg base CX0 8 fa fd ["script"] (spLaw K) := by
  have e := hfa.symm.trans (PySem.W.mg_of X G a13)
  cases e
  have T_mix : Top K mg "_law_mix" s_mix ["cell", "k"] := top_mk X G a0 l0 c0 k0 fun _ _ _ _ _ _ us hl => match us, hl with | [_, _], _ => rfl
  have T_deck : Top K mg "_law_deck" s_deck ["script"] := top_mk X G a1 l1 c1 k1 fun _ _ _ _ _ _ us hl => match us, hl with | [_], _ => rfl
  have T_next : Top K mg "_law_next" s_next ["deck", "many"] := top_mk X G a2 l2 c2 k2 fun _ _ _ _ _ _ us hl => match us, hl with | [_, _], _ => rfl
  have T_great : Top K mg "_law_great" s_great ["deck", "most"] := top_mk X G a3 l3 c3 k3 fun _ _ _ _ _ _ us hl => match us, hl with | [_, _], _ => rfl
  have T_bound : Top K mg "_law_bound" s_bound ["deck", "most"] := top_mk X G a4 l4 c4 k4 fun _ _ _ _ _ _ us hl => match us, hl with | [_, _], _ => rfl
  have T_rule : Top K mg "_law_rule" s_rule ["deck", "most"] := top_mk X G a5 l5 c5 k5 fun _ _ _ _ _ _ us hl => match us, hl with | [_, _], _ => rfl
  have T_is_whole : Top K mg "is_whole" s_is_whole ["thing"] := top_mk X G a6 l6 c6 k6 fun _ _ _ _ _ _ us hl => match us, hl with | [_], _ => rfl
  have T_is_number : Top K mg "is_number" s_is_number ["thing", "bound"] := top_mk X G a7 l7 c7 k7 fun _ _ _ _ _ _ us hl => match us, hl with | [_, _], _ => rfl
  have T_check_number : Top K mg "check_number" s_check_number ["number", "bound"] := top_mk X G a8 l8 c8 k8 fun _ _ _ _ _ _ us hl => match us, hl with | [_, _], _ => rfl
  have T_next_of : Top K mg "next_of" s_next_of ["rule", "number"] := top_mk X G a9 l9 c9 k9 fun _ _ _ _ _ _ us hl => match us, hl with | [_, _], _ => rfl
  have T_walked_on : Top K mg "walked_on" s_walked_on ["rule", "start", "places"] := top_mk X G a10 l10 c10 k10 fun _ _ _ _ _ _ us hl => match us, hl with | [_, _, _], _ => rfl
  have T_all_rounds : Top K mg "all_rounds" s_all_rounds ["rule"] := top_mk X G a11 l11 c11 k11 fun _ _ _ _ _ _ us hl => match us, hl with | [_], _ => rfl
  have T_rounds : Top K mg "_law_rounds" s_rounds ["rule"] := top_mk X G a12 l12 c12 k12 fun _ _ _ _ _ _ us hl => match us, hl with | [_], _ => rfl
  have T_law : Top K mg "law" s_law ["script"] := top_mk X G a13 l13 c13 k13 fun _ _ _ _ _ _ us hl => match us, hl with | [_], _ => rfl
  have z_sum := PySem.W.mg_none_of X G y_sum
  have z_len := PySem.W.mg_none_of X G y_len
  have z_range := PySem.W.mg_none_of X G y_range
  have z_isinstance := PySem.W.mg_none_of X G y_isinstance
  have z_int := PySem.W.mg_none_of X G y_int
  have z_bool := PySem.W.mg_none_of X G y_bool
  have z_tuple := PySem.W.mg_none_of X G y_tuple
  have z_list := PySem.W.mg_none_of X G y_list
  have z_set := PySem.W.mg_none_of X G y_set
  have z_sorted := PySem.W.mg_none_of X G y_sorted
  have G_CR := PySem.W.mg_of X G aCR
  have G_CN := PySem.W.mg_of X G aCN
  have ox : OexC K CN := ⟨⟨nm, qn, Nn, bs, _, sn, sub, ab, col, dd, m0, m1, m2, m3, m5, xL, rfl⟩, sa, xCNhs, tyC, kC⟩
  have FI := fun_mk (x := "__init__") (qual := "NoNumber.__init__") (st := s_init) lI cI kI
  have bI := FI.binds (ps := ["self", "number"]) fun _ _ _ _ _ _ us hl => match us, hl with | [_, _], _ => rfl
  have RI : ClX.CRead K CR (.type "type") := ⟨rd, rg⟩
  refine ⟨PySem.W.fnOf "law" "law" (defArgs s_law) (defBody s_law) (defScope s_law) .none kV13 dc13 pm13 an13 cd13 ct13, fun s v => .of_eq rfl, fun base _ _ => ?_⟩
  have FL := fun_mk (st := s_law) l13 c13 k13

  have o_mix := ok_mix (P := l.prog) (w := w) (base := base) T_mix
  have o_next := ok_next T_next o_mix z_len
  have o_great := ok_great T_great o_next
  have o_bound := ok_bound T_bound o_next o_great z_len z_range
  have o_rule := ok_rule T_rule o_next o_great o_bound
  have o_whole := ok_is_whole (P := l.prog) (w := w) (base := base) T_is_whole z_isinstance z_int z_bool
  have o_check := ok_check_number T_check_number (ok_is_number T_is_number o_whole) ox iI tI (ok_init FI G_CR RI ri) bI G_CN nf
  have o_nextof := ok_next_of T_next_of o_check
  have o_walk := ok_walked_on T_walked_on o_nextof z_len
  have o_all := ok_all_rounds T_all_rounds o_walk z_len z_range z_tuple z_sorted
  exact ok_law FL (ok_deck T_deck z_sum) o_rule (ok_rounds T_rounds z_len z_range z_list z_set z_sorted z_tuple) o_all z_range z_isinstance z_tuple z_bool
end Tw
open PySem PySem.W PyProof.Rows
set_option maxHeartbeats 0 in
theorem PySem.Challenge.cw_timesrow_k07_all_rounds_holds : PySem.Challenge.rw_timesrow_k07_all_rounds.Holds := by
  w_on; o_law; k_head; (case hw => w_witness2)
  k_fill
  refine L2.walk_of (l := PySem.Challenge.rw_timesrow_k07_all_rounds) (n := 63) (k := 8) (x := "script") (CX := fun _ => L2.CX0) (sp := fun w => Tw.spLaw _) rfl (by decide) rfl ⟨rfl, by decide, by decide⟩ (fun w h Y => PySem.W.kIn_of Y) ?F (fun _ _ a ns hl _ hS => ⟨_, rfl, a, ns, rfl, hS, fun _ => rfl⟩) (fun _ _ _ _ _ h => h)
  case F =>
    intro w mg fa h KX G hmg
    refine' Tw.all_mk KX G hmg ?aCR ?aCN ?a0 ?l0 ?c0 ?k0 ?a1 ?l1 ?c1 ?k1 ?a2 ?l2 ?c2 ?k2 ?a3 ?l3 ?c3 ?k3 ?a4 ?l4 ?c4 ?k4 ?a5 ?l5 ?c5 ?k5 ?a6 ?l6 ?c6 ?k6 ?a7 ?l7 ?c7 ?k7 ?a8 ?l8 ?c8 ?k8 ?a9 ?l9 ?c9 ?k9 ?a10 ?l10 ?c10 ?k10 ?a11 ?l11 ?c11 ?k11 ?a12 ?l12 ?c12 ?k12 ?a13 ?l13 ?c13 ?k13 ?y_sum ?y_len ?y_range ?y_isinstance ?y_int ?y_bool ?y_tuple ?y_list ?y_set ?y_sorted ?xCNhc ?xCNhg ?xCNhk ?xCNhs ?xCNhd ?xCNha ?xCNhm ?gn ?gt ?xCNkr ?xCNkv ?xCNkCN ?xCNxm ?xL ?sa ?tyC ?kC ?nf ?iI ?tI ?lI ?cI ?kI ?rd ?rg ?ri
    (case aCR => first | k_is | rfl | k_exc)
    (case aCN => first | k_is | rfl | k_exc)
    (case a0 => first | k_is | rfl | k_exc)
    (case l0 => first | k_is | rfl | k_exc)
    (case c0 => first | k_is | rfl | k_exc)
    (case k0 => first | k_is | rfl | k_exc)
    (case a1 => first | k_is | rfl | k_exc)
    (case l1 => first | k_is | rfl | k_exc)
    (case c1 => first | k_is | rfl | k_exc)
    (case k1 => first | k_is | rfl | k_exc)
    (case a2 => first | k_is | rfl | k_exc)
    (case l2 => first | k_is | rfl | k_exc)
    (case c2 => first | k_is | rfl | k_exc)
    (case k2 => first | k_is | rfl | k_exc)
    (case a3 => first | k_is | rfl | k_exc)
    (case l3 => first | k_is | rfl | k_exc)
    (case c3 => first | k_is | rfl | k_exc)
    (case k3 => first | k_is | rfl | k_exc)
    (case a4 => first | k_is | rfl | k_exc)
    (case l4 => first | k_is | rfl | k_exc)
    (case c4 => first | k_is | rfl | k_exc)
    (case k4 => first | k_is | rfl | k_exc)
    (case a5 => first | k_is | rfl | k_exc)
    (case l5 => first | k_is | rfl | k_exc)
    (case c5 => first | k_is | rfl | k_exc)
    (case k5 => first | k_is | rfl | k_exc)
    (case a6 => first | k_is | rfl | k_exc)
    (case l6 => first | k_is | rfl | k_exc)
    (case c6 => first | k_is | rfl | k_exc)
    (case k6 => first | k_is | rfl | k_exc)
    (case a7 => first | k_is | rfl | k_exc)
    (case l7 => first | k_is | rfl | k_exc)
    (case c7 => first | k_is | rfl | k_exc)
    (case k7 => first | k_is | rfl | k_exc)
    (case a8 => first | k_is | rfl | k_exc)
    (case l8 => first | k_is | rfl | k_exc)
    (case c8 => first | k_is | rfl | k_exc)
    (case k8 => first | k_is | rfl | k_exc)
    (case a9 => first | k_is | rfl | k_exc)
    (case l9 => first | k_is | rfl | k_exc)
    (case c9 => first | k_is | rfl | k_exc)
    (case k9 => first | k_is | rfl | k_exc)
    (case a10 => first | k_is | rfl | k_exc)
    (case l10 => first | k_is | rfl | k_exc)
    (case c10 => first | k_is | rfl | k_exc)
    (case k10 => first | k_is | rfl | k_exc)
    (case a11 => first | k_is | rfl | k_exc)
    (case l11 => first | k_is | rfl | k_exc)
    (case c11 => first | k_is | rfl | k_exc)
    (case k11 => first | k_is | rfl | k_exc)
    (case a12 => first | k_is | rfl | k_exc)
    (case l12 => first | k_is | rfl | k_exc)
    (case c12 => first | k_is | rfl | k_exc)
    (case k12 => first | k_is | rfl | k_exc)
    (case a13 => first | k_is | rfl | k_exc)
    (case l13 => first | k_is | rfl | k_exc)
    (case c13 => first | k_is | rfl | k_exc)
    (case k13 => first | k_is | rfl | k_exc)
    (case y_sum => first | k_is | rfl | k_exc)
    (case y_len => first | k_is | rfl | k_exc)
    (case y_range => first | k_is | rfl | k_exc)
    (case y_isinstance => first | k_is | rfl | k_exc)
    (case y_int => first | k_is | rfl | k_exc)
    (case y_bool => first | k_is | rfl | k_exc)
    (case y_tuple => first | k_is | rfl | k_exc)
    (case y_list => first | k_is | rfl | k_exc)
    (case y_set => first | k_is | rfl | k_exc)
    (case y_sorted => first | k_is | rfl | k_exc)
    (case xCNhc => first | k_is | rfl | k_exc)
    (case xCNhg => first | k_is | rfl | k_exc)
    (case xCNhk => first | k_is | rfl | k_exc)
    (case xCNhs => first | k_is | rfl | k_exc)
    (case xCNhd => first | k_is | rfl | k_exc)
    (case xCNha => first | k_is | rfl | k_exc)
    (case xCNhm => first | k_is | rfl | k_exc)
    (case gn => first | k_is | rfl | k_exc)
    (case gt => first | k_is | rfl | k_exc)
    (case xCNkr => first | k_is | rfl | k_exc)
    (case xCNkv => first | k_is | rfl | k_exc)
    (case xCNkCN => first | k_is | rfl | k_exc)
    (case xCNxm => first | k_is | rfl | k_exc)
    (case xL => first | k_is | rfl | k_exc)
    (case sa => first | k_is | rfl | k_exc)
    (case tyC => first | k_is | rfl | k_exc)
    (case kC => first | k_is | rfl | k_exc)
    (case nf => first | k_is | rfl | k_exc)
    (case iI => first | k_is | rfl | k_exc)
    (case tI => first | k_is | rfl | k_exc)
    (case lI => first | k_is | rfl | k_exc)
    (case cI => first | k_is | rfl | k_exc)
    (case kI => first | k_is | rfl | k_exc)
    (case rd => first | k_is | rfl | k_exc)
    (case rg => first | k_is | rfl | k_exc)
    (case ri => first | k_is | rfl | k_exc)

