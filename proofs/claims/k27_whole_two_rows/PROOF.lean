import PyProof.Rows.All
import Wide.All
import OpenK.AllK
import Wide.FinOn
import PyProof.EqAt
import PyProof.EqKinds
import PyProof.TupleCall
import KE.KExcIs
import HandS.ForMost
import HandS.ForExc
import HandS.ExcInit
import HandS.ExcField
import HandS.IsInst
import HandS.ClsMeth
import HandS.Wide
import HandS.SetFor
import HandS.Codes
import HandS.Style
import HandS.Set
import HandS.Strs
import HandS.SortInts
import HandS.DictTup
import HandS.ListItems
import HandS.Conv
import KE.GoesMore
import HandS.Walk
import HandS.NoneIn
import HandS.TupMul
import HandS.WideBits
import HandS.TupAny
import HandS.EndBits
import HandS.Comp
import KE.DataCmp
import PyProof.Rows.SumAny
import PyProof.WalksMore
import HandS.TupLen
import KE.GoesEnum
import PySem.Challenge.RW_timesrow_k27_whole_two_rows
set_option Elab.async false
set_option linter.all false
set_option maxRecDepth 100000
set_option maxHeartbeats 4000000
/-! Own rules over the hand layer: a caught exception kept as a value, its class asked, its field read; the base's own initialiser reached through an own class; products and quotients by plain bounds. -/
namespace Tw
open PySem PySem.Spec PyProof.Rows L2

/-! ### an exception held as a value -/
def exv (a : Addr) (cls : Value) (d : Option Addr) : HO := .ext fun h => ∃ (oe : Obj) (vs : Array Value), h.get? a = some oe ∧ Zc cls d oe ∧ oe.data = .fields vs
theorem exv_ok {P : Program} {w : World} {H : Hp} {h : Heap} {a : Addr} {cls : Value} {d : Option Addr} {oe : Obj} {vs : Array Value} (he : h.get? a = some oe) (hz : Zc cls d oe) (hd : oe.data = .fields vs) : ObjOk P w H h a (exv a cls d) :=
  ⟨⟨oe, vs, he, hz, hd⟩, ⟨oe, he⟩, fun _ _ z k => by
    obtain ⟨o, v, e, q⟩ := z
    exact ⟨o, v, k _ e, q⟩⟩
theorem exv_at {P : Program} {w : World} {H : Hp} {h : Heap} {a : Addr} {cls : Value} {d : Option Addr} (hok : HOk P w H h) (he : H a = some (exv a cls d)) : ∃ (oe : Obj) (vs : Array Value), h.get? a = some oe ∧ Zc cls d oe ∧ oe.data = .fields vs := by
  have x : ObjOk P w H h a (.ext fun h => ∃ (oe : Obj) (vs : Array Value), h.get? a = some oe ∧ Zc cls d oe ∧ oe.data = .fields vs) := hok a _ he
  exact x.1
section
variable {X : Cx} {pins : List (Addr × Obj)} {σ : L2.St} {H : Hp} {s : Shared}
/-- an object of ours that was not tracked is tracked from here on -/
theorem track {a : Addr} {o : HO} (I : Inv X pins σ H s) (na : H a = none) (h0 : ∀ ob, X.s_0.heap.get? a = some ob → X.H_0 a = none → a ∉ X.ex → False) (hL : a ≠ X.env.locals)
    (hc : ∀ x c, X.env.cells.lookup x = some c → c ≠ a) (hp : ∀ p ∈ X.pn ++ pins, p.1 ≠ a) (new : ObjOk X.prog X.w (upd H a o) s.heap a o) : Inv X pins σ (upd H a o) s := by
  have ne : ∀ {b : Addr} {u : HO}, H b = some u → b ≠ a := fun {b u} e => ne_of_none e na
  refine ⟨I.ok, I.os, I.bare, ⟨I.base.keep, I.base.slot, fun b ob e n hx => ?_, I.base.there, fun b xs e => ?_, fun b ob u e => ?_, fun b ps e => ?_⟩, I.loc, I.cell, ?_, fun x c e => ?_, fun p q => ?_, fun b u e => ?_, I.len⟩
  · have nb : b ≠ a := fun z => h0 ob (z ▸ e) (z ▸ n) (z ▸ hx)
    rw [upd_ne nb]
    exact I.base.free b ob e n hx
  · have q := I.base.tups b xs e
    rw [upd_ne (ne q)]
    exact q
  · have q := I.base.frzs b ob u e
    rw [upd_ne (ne q)]
    exact q
  · obtain ⟨more, q⟩ := I.base.tbls b ps e
    exact ⟨more, by rw [upd_ne (ne q)]; exact q⟩
  · rw [upd_ne (Ne.symm hL)]
    exact I.free
  · rw [upd_ne (hc x c e)]
    exact I.freeC x c e
  · obtain ⟨e, n, l, f, d⟩ := I.pin p q
    exact ⟨e, by rw [upd_ne (hp p q)]; exact n, l, f, d⟩
  · by_cases hb : b = a
    · subst hb
      rw [upd_same] at e
      cases e
      exact new
    · rw [upd_ne hb] at e
      exact (I.hok b u e).stay (fun _ _ _ q => q) (fun c q => by rw [upd_ne (ne q)]; exact q) (fun c xs q => by rw [upd_ne (ne q)]; exact q)
/-- into an except suite and out of it: nothing more is pinned there than was before -/
theorem toSuite (I : Inv X pins σ H s) (a : Addr) : Inv (X.suite a (X.pn ++ pins)) [] σ H s :=
  { ok := I.ok.suite _ _, os := I.os, bare := I.bare, base := I.base, loc := I.loc, cell := I.cell, free := I.free, freeC := I.freeC, hok := I.hok, len := I.len
    pin := fun p hp => I.pin p ((List.append_nil (X.pn ++ pins)) ▸ hp) }
theorem ofSuite {a : Addr} {more : List (Addr × Obj)} (I : Inv (X.suite a (X.pn ++ pins)) more σ H s) (ok : X.Ok) : Inv X pins σ H s :=
  { ok := ok, os := I.os, bare := I.bare, base := I.base, loc := I.loc, cell := I.cell, free := I.free, freeC := I.freeC, hok := I.hok, len := I.len
    pin := fun p hp => I.pin p (List.mem_append_left more hp) }
/-- no frame is a record -/
theorem rec_noframe {h B : Heap} {l : List Env} {a : Addr} {o : Obj} {vs : Array Value} (ff : h.FunFrames B l) (e : h.get? a = some o) (dd : o.data = .fields vs) : a ∉ frs l := fun hm => by
  obtain ⟨_, o2, e2, nf⟩ := ff.mem hm
  have z := Option.some.inj (e.symm.trans e2)
  subst z
  exact nf vs dd
/-- an address that the ground does not know is younger than the def's entry, and is not pinned -/
theorem young {B : Heap} {a : Addr} (J : Inv X pins σ H s) (gr : ∀ b o, s.heap.get? b = some o → b ∉ frs X.stack → B.get? b = some o) (hB : B.get? a = none) (nS : a ∉ frs X.stack) (nF : a ∉ X.fs) :
    (∀ ob, X.s_0.heap.get? a = some ob → X.H_0 a = none → a ∉ X.ex → False) ∧ ∀ p ∈ X.pn ++ pins, p.1 ≠ a := by
  constructor
  · intro ob e n hx
    have z := gr a ob (J.base.keep a ob e n nF hx) nS
    rw [hB] at z
    cases z
  · intro p hp z
    obtain ⟨e, _, l, f, _⟩ := J.pin p hp
    have y := gr p.1 p.2 e (fun hm => (List.mem_cons.mp (J.stkSub p.1 hm)).elim l f)
    rw [z, hB] at y
    cases y
end
/-- what the clause wishes of an exception of the body: the clause takes it; it is held, and stays held behind the suite -/
def wKeep (K : PySem.W.Frag) (c : Value) (i : Nat) (ts : TS) (D : Ends) : WX := fun cls d σ H =>
  PySem.W.exmOne K cls c = some true ∧ ∀ a, H a = none → ts { nx := fun σ1 H1 => D.nx (σ1.set i none) H1, rt := D.rt, bk := fun σ1 H1 => D.bk (σ1.set i none) H1, ct := fun σ1 H1 => D.ct (σ1.set i none) H1 } (σ.set i (some (.ref a))) (upd H a (exv a cls d))
section
variable {X : Cx} {x n : Str} {c : Value} {i : Nat} {body suite : List Stmt} {b0 : Stmt} {np pos pos' : Pos} {tb : WX → TS} {ts : TS}
/-- the clause's name is looked up while the exception is handled -/
theorem clause_name {pins : List (Addr × Obj)} {σ : L2.St} {H : Hp} {s : Shared} {a : Addr} {Q : Value → Shared → Prop} {E : Value → Shared → Prop} (hc : Names X x c) (I : Inv X pins σ H s) (q : Q c s) :
    wpAny (model X.prog X.w) (X.A.mark (some (.ref a))) (eval (.Name x np) X.env) Q E s := by
  have J := toSuite I a
  obtain ⟨g, nd, m | ⟨m, v, nn⟩⟩ := hc
  · exact ld_glob (X := X.suite a (X.pn ++ pins)) J g m q nd
  · exact ld_blt (X := X.suite a (X.pn ++ pins)) J g m v q nn nd
/-- behind the suite: the name goes, and the way goes on as it would -/
theorem suite_done {pins : List (Addr × Obj)} {a : Addr} {D : Ends} {fl : Flow} {s : Shared} (ok : X.Ok) (hN : X.N.Nodup) (hi : X.N[i]? = some n) (hln : X.env.kindOf n = some .local)
    (h : SP (X.suite a (X.pn ++ pins)) [] { nx := fun σ1 H1 => D.nx (σ1.set i none) H1, rt := D.rt, bk := fun σ1 H1 => D.bk (σ1.set i none) H1, ct := fun σ1 H1 => D.ct (σ1.set i none) H1 } fl s) :
    wpAny (model X.prog X.w) X.A (do bindName X.env n .none; unbindBehindTheSuite X.env n pos') (fun _ s7 => SP X pins D fl s7) X.xe s := by
  cases fl with
  | next => obtain ⟨_, _, S, q⟩ := h; exact gone_ok (ofSuite S ok) hN hi hln fun _ J => ⟨_, _, J, q⟩
  | brk => obtain ⟨_, _, S, q⟩ := h; exact gone_ok (ofSuite S ok) hN hi hln fun _ J => ⟨_, _, J, q⟩
  | cont => obtain ⟨_, _, S, q⟩ := h; exact gone_ok (ofSuite S ok) hN hi hln fun _ J => ⟨_, _, J, q⟩
  | ret u => obtain ⟨_, _, _, S, r, q⟩ := h; exact gone_ok (ofSuite S ok) hN hi hln fun _ J => ⟨_, _, _, J, r, q⟩
/-- an exception in the air of the try's body, met by the clause -/
theorem met {pins : List (Addr × Obj)} {xe : Value → Shared → Prop} {D : Ends} {u : Value} {s1 : Shared} (ok : X.Ok) (hs : X.stack = X.env :: X.outer) (hf : X.env.frame = some X.env.locals) (hN : X.N.Nodup) (hi : X.N[i]? = some n) (hln : X.env.kindOf n = some .local) (hc : Names X x c)
    (hsu : ∀ (a : Addr) (pn : List (Addr × Obj)), PSs (X.suite a pn) (b0 :: suite) ts) (air : XE (X.tr (X.pn ++ pins) xe) (wKeep X.K c i ts D) u s1) :
    wpAny (model X.prog X.w) X.A (noteFrame u X.env) (fun _ s2 => wpAny (model X.prog X.w) X.A (setFlight u none) (fun _ s3 =>
      wpAny (model X.prog X.w) X.A (handleBy u X.env [.ExceptHandler (some (.Name x np)) (some n) (b0 :: suite) pos']) (SP X pins D) X.xe s3) X.xe s2) X.xe s1 := by
  obtain ⟨a, B, sI, _, σ1, H1, cls, d, rfl, J0, gr, up, sky, na, os, ag, xm, yes⟩ := air
  have J : Inv X pins σ1 H1 sI := J0.ofTry ok
  have top : X.A.frames = some (X.env :: X.outer) := ok.frames.trans (congrArg some hs)
  have sky1 : Sky B (X.env :: X.outer) a (Zc cls d) X.env.locals s1.heap := hs ▸ sky
  refine Sky.land Zc.steady top hf sky1 fun h3 fly3 up3 => ?_
  have J3 : Inv X pins σ1 H1 { s1 with heap := h3 } := J.landed gr fly3.1 (up.trans up3) os ag
  obtain ⟨oe3, vs3, at3, z3, d3⟩ := fly3.there
  have nfr : a ∉ frs (X.env :: X.outer) := rec_noframe fly3.2.2.1 at3 d3
  have nS : a ∉ frs X.stack := hs ▸ nfr
  have nL : a ≠ X.env.locals := fun z => nfr (List.mem_filterMap.mpr ⟨X.env, List.mem_cons_self, by rw [hf, z]⟩)
  have nF : a ∉ X.fs := fun hm => let ⟨e, he, q⟩ := List.mem_filterMap.mp hm; nfr (List.mem_filterMap.mpr ⟨e, List.mem_cons_of_mem _ he, q⟩)
  have TY : PySem.W.Looks (model X.prog X.w) h3 (typeOf (.ref a)) cls := fun _ _ _ _ k q => wpAny_typeOf_ref (k _ _ at3) (z3.1.symm ▸ q)
  refine wpAny_handleBy_cons (codeAny_handlers_test (clause_name hc J3 ((PySem.W.exm_one (M := model X.prog X.w) J3.kIn TY xm).here ?_))) (fun q => by cases q)
  refine codeAny_handlers_suite_as (HandSPX.lands_againZ fly3 fun h4 fly4 up4 => ?_)
  have J4 : Inv X pins σ1 H1 { s1 with heap := h4 } := J.landed gr fly4.1 ((up.trans up3).trans up4) os ag
  obtain ⟨oe, vs, at4, z4, d4⟩ := fly4.there
  obtain ⟨y1, y2⟩ := young J gr fly4.2.1 nS nF
  have ncell : ∀ y cc, X.env.cells.lookup y = some cc → cc ≠ a := fun y cc e z => by
    obtain ⟨_, oc, hoc, hdc⟩ := J4.cell y cc e
    subst z
    have w1 : oe = oc := Option.some.inj (at4.symm.trans hoc)
    rw [← w1, d4] at hdc
    cases hdc
  have J5 := toSuite (track (o := exv a cls d) J4 na y1 nL ncell y2 (exv_ok at4 z4 d4)) a
  refine store_ok (X := X.suite a (X.pn ++ pins)) (v := .ref a) J5 hN hi (.inl hln) rfl (fun s5 S5 => ?_) (.inr hln)
  exact wpAny_mono ((hsu a (X.pn ++ pins)).run [] s5 _ _ _ S5 (yes a na)) (fun fl s6 h6 => suite_done ok hN hi hln h6) (fun _ _ z => z.elim)
theorem ps_try_keep (hs : X.stack = X.env :: X.outer) (hf : X.env.frame = some X.env.locals) (hN : X.N.Nodup) (hi : X.N[i]? = some n) (hln : X.env.kindOf n = some .local) (hc : Names X x c)
    (hb : ∀ (W : WX) (pn : List (Addr × Obj)) (xe : Value → Shared → Prop), Takes (X.tr pn xe) W → PassesOwn (model X.prog X.w) X.A X.env xe → PSs (X.tr pn xe) body (tb W))
    (hsu : ∀ (a : Addr) (pn : List (Addr × Obj)), PSs (X.suite a pn) (b0 :: suite) ts) :
    PS X (.Try body [.ExceptHandler (some (.Name x np)) (some n) (b0 :: suite) pos'] [] [] pos) (fun D σ H => tb (wKeep X.K c i ts D) D σ H) := by
  refine ⟨fun pins s σ H D I h => wpAny_Try_except ?_⟩
  have ok := I.ok
  refine wpAny_mono ((hb _ (X.pn ++ pins) _ (fun u s1 air => met ok hs hf hN hi hln hc hsu air) PassesOwn.looking).run [] s σ H D (I.toTry _) h) (fun fl s1 r => ?_) (fun _ _ q => q)
  cases fl with
  | next => obtain ⟨_, _, J, q⟩ := r; exact wpAny_execs_nil ⟨_, _, J.ofTry ok, q⟩
  | brk => obtain ⟨_, _, J, q⟩ := r; exact ⟨_, _, J.ofTry ok, q⟩
  | cont => obtain ⟨_, _, J, q⟩ := r; exact ⟨_, _, J.ofTry ok, q⟩
  | ret u => obtain ⟨_, _, _, J, v, q⟩ := r; exact ⟨_, _, _, J.ofTry ok, v, q⟩
end

/-! ### isinstance of a held exception -/
/-- what is asked of an own exception class -/
structure XcC (K : PySem.W.Frag) (D : Addr) : Prop where
  hc : PySem.W.isClsIn K D = true
  hg : PySem.W.findIn K (.ref D) "__getattribute__" = some (some (.builtin "BaseException.__getattribute__"))
  hk : PySem.W.findIn K (.ref D) "__getattr__" = some none
  hs : PySem.W.subIn K (.ref D) (.type "BaseException") = some true
  hd : PySem.W.hasDictIn K D = true
  ha : PySem.W.findIn K (.ref D) "__class__" = some (some (.builtin "object.__class__"))
  hn : PySem.W.specialIn K (.builtin "object.__class__") "__get__" = some (some (.builtin "getset_descriptor.__get__"))
  ht : PySem.W.takesIn K (.builtin "object.__class__") = some true
  hm : PySem.W.mroIn K D (.type "object") = some true
section
variable {X : Cx} {pins : List (Addr × Obj)} {σ : L2.St} {H : Hp} {s : Shared}
/-- a held exception, its dict as the heap tells it -/
def HasD (H : Hp) (d : Option Addr) : Prop := ∀ dx, d = some dx → ∃ fs, H dx = some (.xd fs)
theorem inst_of {a D : Addr} {d : Option Addr} (I : Inv X pins σ H s) (e : H a = some (exv a (.ref D) d)) (hd : HasD H d) : ∃ oe od, PySem.W.InstAt s.heap a oe D od := by
  obtain ⟨oe, vs, he, hz, hv⟩ := exv_at I.hok e
  have nc : PySem.W.notCls oe = true := by unfold PySem.W.notCls; rw [hv] <;> rfl
  cases d with
  | none => exact ⟨oe, none, he, hz.1, nc, by rw [hz.2]; trivial⟩
  | some dx =>
    obtain ⟨fs, ed⟩ := hd dx rfl
    have hx : ObjOk X.prog X.w H s.heap dx (.xd fs) := I.hok dx _ ed
    obtain ⟨mA, hns, hr⟩ := hx
    obtain ⟨od, ho, hl⟩ := lookIn_ns hns
    exact ⟨oe, some od, he, hz.1, nc, by rw [hz.2]; exact ho⟩
end
/-- isinstance(e, c), e a held exception of the class at D -/
def rIsX (K : PySem.W.Frag) : List V → Hp → VK → Prop := fun xs H Q => ∃ (a D : Addr) (d : Option Addr) (c : V) (u : Value) (b : Bool), xs = [.ref a, c] ∧ ClsV c u ∧ H a = some (exv a (.ref D) d) ∧ HasD H d ∧ XcC K D ∧ PySem.W.kitOne K (.ref D) u = some b ∧ Q (.bl b) H
theorem call_isX {X : Cx} : CallR X (.builtin "isinstance") (rIsX X.K) := by
  intro pins s σ H xs us Q I r h
  obtain ⟨a, D, d, c, u, b, rfl, k, ea, hd, T, e, q⟩ := h
  obtain ⟨u1, u2, rfl, r1, r2⟩ := vals2 r
  cases (show u1 = Value.ref a from r1)
  have e2 := k.eq r2
  subst e2
  obtain ⟨oe, od, J⟩ := inst_of I ea hd
  exact PySem.W.kia_one (PySem.W.kitx_exc T.hc T.hg T.hk T.hs T.ha T.hn T.ht T.hm) I.kIn J e (fun z => nomatch z) fun tk => ⟨.bl b, H, I.tok tk, rfl, q⟩
/-- both: a held exception, or anything that the layer knows -/
def rIsA (K : PySem.W.Frag) : List V → Hp → VK → Prop := fun xs H Q => rIsX K xs H Q ∨ rIsi K xs H Q
theorem call_isA {X : Cx} : CallR X (.builtin "isinstance") (rIsA X.K) := by
  intro pins s σ H xs us Q I r h
  rcases h with h | h
  · exact call_isX pins s σ H xs us Q I r h
  · exact call_isi pins s σ H xs us Q I r h

/-! ### a field of a held exception -/
def tXv (K : PySem.W.Frag) (f : Str) (te : TE) : TE := fun σ H Q => te σ H fun x H1 => ∃ (a C dd : Addr) (fs : List (Str × V)) (v : V), x = .ref a ∧ H1 a = some (exv a (.ref C) (some dd)) ∧ XcC K C ∧ PySem.W.findIn K (.ref C) f = some none ∧ H1 dd = some (.xd fs) ∧ fs.lookup f = some v ∧ Q v H1
theorem pe_xv {X : Cx} {e : Expr} {te : TE} {pos : Pos} {n : Str} (he : PE X e te) (hb : attributeBase e n X.env (eval e X.env) = eval e X.env := by rfl) : PE X (.Attribute e n pos) (tXv X.K n te) := by
  refine ⟨fun pins s σ H Q I h => ?_⟩
  refine attr_of hb (thn (he.run pins s σ H _ I h) fun u s1 hh => ?_)
  obtain ⟨x, H1, I1, rx, a, C, dd, fs, v, ex, ea, T, hno, ed, l, q⟩ := hh
  subst ex
  obtain rfl : u = Value.ref a := rx
  obtain ⟨oe, vs, ha, hz, hd⟩ := exv_at I1.hok ea
  have hx : ObjOk X.prog X.w H1 s1.heap dd (.xd fs) := I1.hok dd _ ed
  obtain ⟨mA, hns, hr⟩ := hx
  obtain ⟨od, ho, hl⟩ := lookIn_ns hns
  obtain ⟨u, hu, ru⟩ := RelO.some_of (v := v) (o := mA n) (by rw [← l]; exact hr n)
  have J : PySem.W.InstAt s1.heap a oe C (some od) := ⟨ha, hz.1, by unfold PySem.W.notCls; rw [hd] <;> rfl, by rw [hz.2]; exact ho⟩
  exact HandSPX.exc_get I1.kIn J T.hg T.hk T.hs (PySem.W.findObj_own T.hd hno rfl (by rw [hl, hu])) (handed_of ru) ⟨v, H1, I1.tok _, ru, q⟩

/-! ### B.__init__(self, ..), B an own class over ValueError -/
theorem pe_ownInit {X : Cx} {B : Addr} {mc : Value} {x : Str} {e : Expr} {es : List Expr} {ta : TA} {p1 p2 pos : Pos} {pl : Sem Bool} (hg : Gl X x) (hm : X.mg x = some (.ref B)) (r : ClX.CRead X.K B mc)
    (k : PySem.W.findCls X.K (.ref B) mc "__init__" = some (.val (.builtin "ValueError.__init__"))) (ha : PA X (e :: es) ta)
    (hc : eval (.Call (.Attribute (.Name x p1) "__init__" p2) (e :: es) [] pos) X.env = (do
      let ov ← eval (.Name x p1) X.env
      standAt p2.atName
      let (f, first) ← holding [ov] (getMethod ov "__init__" pl)
      callWith pos f first (backTo pos (starEach (e :: es) X.env)) (backToKw pos (keywordEach [] X.env))) := by rfl)
    (he : starEach (e :: es) X.env = (false, eval e X.env) :: starEach es X.env := by rfl) (hpl : (backTo pos (starEach es X.env)).any (·.1) = false := by rfl) (hdb : (x == ("__debug__" : Str)) = false := by decide) :
    PE X (.Call (.Attribute (.Name x p1) "__init__" p2) (e :: es) [] pos) (tVeI X.K ta) := by
  refine ⟨fun pins s σ H Q I h => ?_⟩
  refine PySem.W.methodCall_KW (ld_glob I hg hm ?_ hdb) hc
  refine PySem.W.method_cls I.kIn r.ga (PySem.W.cls_value I.kIn r.rd k rfl ?_)
  show wpAny _ _ (callWith pos (Value.builtin "ValueError.__init__") [] (backTo pos (starEach (e :: es) X.env)) []) _ _ _
  refine PyProof.Rows.callWith_method1 (thn (ha.run pos pins _ σ H _ (I.tok _) h) fun us s1 ⟨vs, H1, I1, r1, a, C, ws, ev, hl, T, ea, q⟩ => ?_) he hpl
  subst ev
  cases r1 with
  | @cons _ u0 _ ur ra rw' =>
    obtain rfl : u0 = Value.ref a := ra
    have hlen : ur.length ≤ sizeLine := by
      rw [← Paired.length rw', sizeLine_eq]
      omega
    exact oinit_ok T I1 ea hlen fun s' J => ⟨.non, H1, J, rfl, q⟩

/-! ### products and quotients by plain bounds -/
def Big (i : Int) : Prop := -1000000000000000000000000000000000000000000 < i ∧ i < 1000000000000000000000000000000000000000000
theorem Big.abs {i : Int} (h : Big i) : i.natAbs < 2 ^ 140 := by
  obtain ⟨a, b⟩ := h
  have : (2 : Nat) ^ 140 = 1393796574908163946345982392040522594123776 := by decide
  rw [this]
  omega
def CMulB (i j : Int) : Prop := Big i ∧ Big j
def CDivB (_ j : Int) : Prop := 0 < j ∧ j < 1000000000000000000000000000000000000000000
theorem op_mulB {X : Cx} : OpR X (binaryOp .Mult) (rI CMulB fun i j => .int (i * j)) := by
  intro pins s σ H x y u v Q I r1 r2 h
  obtain ⟨i, j, e1, e2, hc, q⟩ := h
  exact op_mulW pins s σ H x y u v Q I r1 r2 ⟨i, j, e1, e2, wide_mul hc.1.abs hc.2.abs (by decide) (by decide) (by decide), q⟩
theorem op_fdivB {X : Cx} : OpR X (binaryOp .FloorDiv) (rI CDivB fun i j => .int (i / j)) := by
  intro pins s σ H x y u v Q I r1 r2 h
  obtain ⟨i, j, e1, e2, hc, q⟩ := h
  have hb : Big j := ⟨by have := hc.1; omega, hc.2⟩
  exact op_fdivW pins s σ H x y u v Q I r1 r2 ⟨i, j, e1, e2, wide_div hc.1 hb.abs (by decide) (by decide), q⟩
end Tw

/-! Short words: a def of the top, its promise, its call; readings. -/
namespace Tw
open PySem PySem.Spec PyProof.Rows L2

/-- a def of the text as the top has left it -/
def Top (K : PySem.W.Frag) (mg : Str → Option Value) (x : Str) (st : Stmt) (ps : List Str) : Prop :=
  ∃ (f : Addr) (fd : FuncData), Fun K x x st f fd ∧ mg x = some (.ref f) ∧ Binds K fd ps []
/-- a def that keeps its promise, ready to be called -/
def Lk (K : PySem.W.Frag) (f : Addr) (fd : FuncData) : Prop := ∃ (oc : Value) (od : Option Addr) (osl : Array (Option Value)), K.lookup f = some ⟨oc, od, .func fd, osl⟩
theorem Lk.eq {K : PySem.W.Frag} {f : Addr} {fd fe : FuncData} (a : Lk K f fd) (b : Lk K f fe) : fd = fe := by
  obtain ⟨oc, od, osl, e⟩ := a
  obtain ⟨oc', od', osl', e'⟩ := b
  rw [e] at e'
  cases e'
  rfl
theorem lk_of {K : PySem.W.Frag} {x q : Str} {st : Stmt} {f : Addr} {fd : FuncData} (F : Fun K x q st f fd) : Lk K f fd := by
  obtain ⟨oc, od, kV, doc, pm, an, cdv, ct, osl, _, lk, _⟩ := F.ex
  exact ⟨oc, od, osl, lk⟩
def Has (P : Program) (w : World) (K : PySem.W.Frag) (mg : Str → Option Value) (base : Heap) (CX : CXT) (k : Nat) (x : Str) (ps : List Str) (sp : Sp) : Prop :=
  ∃ (f : Addr) (fd : FuncData), FnOk P w K mg base CX k f fd ps sp ∧ mg x = some (.ref f) ∧ PySem.W.keepIn K (.ref f) = true ∧ Binds K fd ps [] ∧ Lk K f fd
theorem Has.mono {P : Program} {w : World} {K : PySem.W.Frag} {mg : Str → Option Value} {base : Heap} {CX : CXT} {j k : Nat} {x : Str} {ps : List Str} {sp : Sp} (h : Has P w K mg base CX j x ps sp) (l : j ≤ k) : Has P w K mg base CX k x ps sp := by
  obtain ⟨f, fd, F, g, kp, b, lk⟩ := h
  exact ⟨f, fd, F.mono l, g, kp, b, lk⟩
/-! promises by the number of arguments -/
def sp1 (p : V → Hp → VK → XK → Prop) : Sp := fun vs H Q E => ∃ a, vs = [a] ∧ p a H Q E
def sp2 (p : V → V → Hp → VK → XK → Prop) : Sp := fun vs H Q E => ∃ a b, vs = [a, b] ∧ p a b H Q E
def sp3 (p : V → V → V → Hp → VK → XK → Prop) : Sp := fun vs H Q E => ∃ a b c, vs = [a, b, c] ∧ p a b c H Q E
def sp4 (p : V → V → V → V → Hp → VK → XK → Prop) : Sp := fun vs H Q E => ∃ a b c d, vs = [a, b, c, d] ∧ p a b c d H Q E
section
variable {P : Program} {w : World} {K : PySem.W.Frag} {mg : Str → Option Value} {base : Heap} {x : Str} {st : Stmt} {N : List Str} {k : Nat}
theorem Top.ok {ps : List Str} {sp : Sp} (D : Top K mg x st ps) (S : FnScope N ps (defScope st)) (len : ∀ vs H Q E, sp vs H Q E → vs.length = ps.length)
    (hbody : ∀ (f : Addr) (cdv : Value) (A : Around) (outer : List Env) (s : Shared) (H : Hp) (vs : List V) (Q : VK) (E : XK), Room k (A.deeper (envOfC x (defScope st) s.heap.objs.size f cdv)) → sp vs H Q E →
      ∃ t, PSs (cxOf CX0 P w K mg base N x (defScope st) f cdv A outer s H E).nox (defBody st) t ∧ t { nx := fun _ H' => Q .non H', rt := Q } (start N vs) H) : Has P w K mg base CX0 (k + 1) x ps sp := by
  obtain ⟨f, fd, F, g, b⟩ := D
  exact ⟨f, fd, F.ok S len (fun cdv A outer s H vs Q E hr h => hbody f cdv A outer s H vs Q E hr h), g, F.kp, b, lk_of F⟩
theorem Top.okX {ps : List Str} {sp : Sp} (D : Top K mg x st ps) (S : FnScope N ps (defScope st)) (len : ∀ vs H Q E, sp vs H Q E → vs.length = ps.length)
    (hbody : ∀ (f : Addr) (cdv : Value) (A : Around) (outer : List Env) (s : Shared) (H : Hp) (vs : List V) (Q : VK) (E : XK), Room k (A.deeper (envOfC x (defScope st) s.heap.objs.size f cdv)) → sp vs H Q E →
      ∃ t, PSs (cxOf (L2.CX P w) P w K mg base N x (defScope st) f cdv A outer s H E) (defBody st) t ∧ t { nx := fun _ H' => Q .non H', rt := Q } (start N vs) H) : Has P w K mg base (L2.CX P w) (k + 1) x ps sp := by
  obtain ⟨f, fd, F, g, b⟩ := D
  exact ⟨f, fd, F.okX S len (fun cdv A outer s H vs Q E hr h => hbody f cdv A outer s H vs Q E hr h), g, F.kp, b, lk_of F⟩
theorem Top.ok1 {a : Str} {p : V → Hp → VK → XK → Prop} (D : Top K mg x st [a]) (S : FnScope N [a] (defScope st))
    (hbody : ∀ (f : Addr) (cdv : Value) (A : Around) (outer : List Env) (s : Shared) (H : Hp) (v1 : V) (Q : VK) (E : XK), Room k (A.deeper (envOfC x (defScope st) s.heap.objs.size f cdv)) → p v1 H Q E →
      ∃ t, PSs (cxOf CX0 P w K mg base N x (defScope st) f cdv A outer s H E).nox (defBody st) t ∧ t { nx := fun _ H' => Q .non H', rt := Q } (start N [v1]) H) : Has P w K mg base CX0 (k + 1) x [a] (sp1 p) :=
  D.ok S (fun vs H Q E h => by obtain ⟨_, rfl, _⟩ := h; rfl) (fun f cdv A outer s H vs Q E hr h => by obtain ⟨v1, rfl, h⟩ := h; exact hbody f cdv A outer s H v1 Q E hr h)
theorem Top.ok2 {a b : Str} {p : V → V → Hp → VK → XK → Prop} (D : Top K mg x st [a, b]) (S : FnScope N [a, b] (defScope st))
    (hbody : ∀ (f : Addr) (cdv : Value) (A : Around) (outer : List Env) (s : Shared) (H : Hp) (v1 v2 : V) (Q : VK) (E : XK), Room k (A.deeper (envOfC x (defScope st) s.heap.objs.size f cdv)) → p v1 v2 H Q E →
      ∃ t, PSs (cxOf CX0 P w K mg base N x (defScope st) f cdv A outer s H E).nox (defBody st) t ∧ t { nx := fun _ H' => Q .non H', rt := Q } (start N [v1, v2]) H) : Has P w K mg base CX0 (k + 1) x [a, b] (sp2 p) :=
  D.ok S (fun vs H Q E h => by obtain ⟨_, _, rfl, _⟩ := h; rfl) (fun f cdv A outer s H vs Q E hr h => by obtain ⟨v1, v2, rfl, h⟩ := h; exact hbody f cdv A outer s H v1 v2 Q E hr h)
theorem Top.ok3 {a b c : Str} {p : V → V → V → Hp → VK → XK → Prop} (D : Top K mg x st [a, b, c]) (S : FnScope N [a, b, c] (defScope st))
    (hbody : ∀ (f : Addr) (cdv : Value) (A : Around) (outer : List Env) (s : Shared) (H : Hp) (v1 v2 v3 : V) (Q : VK) (E : XK), Room k (A.deeper (envOfC x (defScope st) s.heap.objs.size f cdv)) → p v1 v2 v3 H Q E →
      ∃ t, PSs (cxOf CX0 P w K mg base N x (defScope st) f cdv A outer s H E).nox (defBody st) t ∧ t { nx := fun _ H' => Q .non H', rt := Q } (start N [v1, v2, v3]) H) : Has P w K mg base CX0 (k + 1) x [a, b, c] (sp3 p) :=
  D.ok S (fun vs H Q E h => by obtain ⟨_, _, _, rfl, _⟩ := h; rfl) (fun f cdv A outer s H vs Q E hr h => by obtain ⟨v1, v2, v3, rfl, h⟩ := h; exact hbody f cdv A outer s H v1 v2 v3 Q E hr h)
theorem Top.ok1X {a : Str} {p : V → Hp → VK → XK → Prop} (D : Top K mg x st [a]) (S : FnScope N [a] (defScope st))
    (hbody : ∀ (f : Addr) (cdv : Value) (A : Around) (outer : List Env) (s : Shared) (H : Hp) (v1 : V) (Q : VK) (E : XK), Room k (A.deeper (envOfC x (defScope st) s.heap.objs.size f cdv)) → p v1 H Q E →
      ∃ t, PSs (cxOf (L2.CX P w) P w K mg base N x (defScope st) f cdv A outer s H E) (defBody st) t ∧ t { nx := fun _ H' => Q .non H', rt := Q } (start N [v1]) H) : Has P w K mg base (L2.CX P w) (k + 1) x [a] (sp1 p) :=
  D.okX S (fun vs H Q E h => by obtain ⟨_, rfl, _⟩ := h; rfl) (fun f cdv A outer s H vs Q E hr h => by obtain ⟨v1, rfl, h⟩ := h; exact hbody f cdv A outer s H v1 Q E hr h)
theorem Top.ok2X {a b : Str} {p : V → V → Hp → VK → XK → Prop} (D : Top K mg x st [a, b]) (S : FnScope N [a, b] (defScope st))
    (hbody : ∀ (f : Addr) (cdv : Value) (A : Around) (outer : List Env) (s : Shared) (H : Hp) (v1 v2 : V) (Q : VK) (E : XK), Room k (A.deeper (envOfC x (defScope st) s.heap.objs.size f cdv)) → p v1 v2 H Q E →
      ∃ t, PSs (cxOf (L2.CX P w) P w K mg base N x (defScope st) f cdv A outer s H E) (defBody st) t ∧ t { nx := fun _ H' => Q .non H', rt := Q } (start N [v1, v2]) H) : Has P w K mg base (L2.CX P w) (k + 1) x [a, b] (sp2 p) :=
  D.okX S (fun vs H Q E h => by obtain ⟨_, _, rfl, _⟩ := h; rfl) (fun f cdv A outer s H vs Q E hr h => by obtain ⟨v1, v2, rfl, h⟩ := h; exact hbody f cdv A outer s H v1 v2 Q E hr h)
theorem Top.ok3X {a b c : Str} {p : V → V → V → Hp → VK → XK → Prop} (D : Top K mg x st [a, b, c]) (S : FnScope N [a, b, c] (defScope st))
    (hbody : ∀ (f : Addr) (cdv : Value) (A : Around) (outer : List Env) (s : Shared) (H : Hp) (v1 v2 v3 : V) (Q : VK) (E : XK), Room k (A.deeper (envOfC x (defScope st) s.heap.objs.size f cdv)) → p v1 v2 v3 H Q E →
      ∃ t, PSs (cxOf (L2.CX P w) P w K mg base N x (defScope st) f cdv A outer s H E) (defBody st) t ∧ t { nx := fun _ H' => Q .non H', rt := Q } (start N [v1, v2, v3]) H) : Has P w K mg base (L2.CX P w) (k + 1) x [a, b, c] (sp3 p) :=
  D.okX S (fun vs H Q E h => by obtain ⟨_, _, _, rfl, _⟩ := h; rfl) (fun f cdv A outer s H vs Q E hr h => by obtain ⟨v1, v2, v3, rfl, h⟩ := h; exact hbody f cdv A outer s H v1 v2 v3 Q E hr h)
end
section
variable {X : Cx} {CX : CXT} {k : Nat} {ps : List Str} {sp : Sp} {E : XK} {x : Str} {p pos : Pos} {e : Expr} {es : List Expr} {t : TA}
/-- f(e, ..): what may be raised is taken by E -/
theorem pe_own (h : Has X.prog X.w X.K X.mg X.base CX k x ps sp) (hr : Room k X.A) (hx : Passes CX X E) (ha : PA X (e :: es) t) (hg : Gl X x := by rfl)
    (hdb : (x == ("__debug__" : Str)) = false := by decide) (he : starEach (e :: es) X.env = (false, eval e X.env) :: starEach es X.env := by rfl) (hpl : (backTo pos (starEach es X.env)).any (·.1) = false := by rfl) :
    PE X (.Call (.Name x p) (e :: es) [] pos) (tCall sp [] E t) := by
  obtain ⟨f, fd, F, g, kp, b, _⟩ := h
  exact pe_call F hr hg g kp b .nil hx ha hdb he hpl
theorem pe_ownS {E : L2.St → XK} (h : Has X.prog X.w X.K X.mg X.base CX k x ps sp) (hr : Room k X.A) (hx : ∀ σ, PassesAt CX X σ (E σ)) (ha : PA X (e :: es) t) (hg : Gl X x := by rfl)
    (hdb : (x == ("__debug__" : Str)) = false := by decide) (he : starEach (e :: es) X.env = (false, eval e X.env) :: starEach es X.env := by rfl) (hpl : (backTo pos (starEach es X.env)).any (·.1) = false := by rfl) :
    PE X (.Call (.Name x p) (e :: es) [] pos) (tCallS sp E t) := by
  obtain ⟨f, fd, F, g, kp, b, _⟩ := h
  exact pe_callS F hr hg g kp b hx ha hdb he hpl
end
/-! ### tests -/
theorem ifD {p A B : Prop} [Decidable p] (h1 : p → A) (h2 : ¬ p → B) : if decide p = true then A else B := by
  by_cases h : p
  · rw [if_pos (decide_eq_true h)]; exact h1 h
  · rw [if_neg (by simp [h])]; exact h2 h
theorem ifN {p A B : Prop} [Decidable p] (h1 : ¬ p → A) (h2 : p → B) : if (!decide p) = true then A else B := by
  by_cases h : p
  · rw [if_neg (by simp [h])]; exact h2 h
  · rw [if_pos (by simp [h])]; exact h1 h
theorem ifI {i j : Int} {A B : Prop} (h1 : i = j → A) (h2 : i ≠ j → B) : if decide (V.int i = V.int j) = true then A else B := ifD (fun e => h1 (V.int.inj e)) (fun e => h2 fun z => e (by rw [z]))
theorem ifNI {i j : Int} {A B : Prop} (h1 : i ≠ j → A) (h2 : i = j → B) : if (!decide (V.int i = V.int j)) = true then A else B := ifN (fun e => h1 fun z => e (by rw [z])) (fun e => h2 (V.int.inj e))
theorem ifB {c : Bool} {A B : Prop} (h1 : c = true → A) (h2 : c = false → B) : if c = true then A else B := by
  cases c with
  | true => exact iteT (h1 rfl)
  | false => exact iteF (h2 rfl)
theorem ifT {c : Bool} {A B : Prop} (e : c = true) (h : A) : if c = true then A else B := by rw [if_pos e]; exact h
theorem ifF {c : Bool} {A B : Prop} (e : c = false) (h : B) : if c = true then A else B := by rw [e]; exact iteF h
/-! ### heaps -/
/-- the list at d begins with the object at c -/
def At (H : Hp) (d c : Addr) : Prop := ∃ r : List V, H d = some (.lst (.ref c :: r))
/-- all but what stands at d is as it was; a list at d keeps its first item -/
structure But (d : Addr) (H H' : Hp) : Prop where
  keep : ∀ b o, b ≠ d → H b = some o → H' b = some o
  hd : ∀ c, At H d c → At H' d c
instance {d : Addr} {H H' : Hp} : CoeFun (But d H H') (fun _ => ∀ b o, b ≠ d → H b = some o → H' b = some o) := ⟨But.keep⟩
theorem But.refl (d : Addr) (H : Hp) : But d H H := ⟨fun _ _ _ h => h, fun _ h => h⟩
theorem But.trans {d : Addr} {H H1 H2 : Hp} (a : But d H H1) (b : But d H1 H2) : But d H H2 := ⟨fun c o n h => b c o n (a c o n h), fun c h => b.hd c (a.hd c h)⟩
theorem _root_.L2.Same.but {d : Addr} {H H1 : Hp} (a : Same H H1) : But d H H1 := ⟨fun c o _ h => a c o h, fun c h => by
  obtain ⟨r, e⟩ := h
  exact ⟨r, a _ _ e⟩⟩
theorem same_new {H : Hp} {p : Addr} {o : HO} (h : H p = none) : Same H (upd H p o) := fun b x e => by
  rw [upd_ne (ne_of_none e h)]
  exact e
theorem same_mut {H H' : Hp} {p : Addr} {o : HO} (e : Same H H') (h : H p = none) : Same H (upd H' p o) := fun a u ha => by
  rw [upd_ne (ne_of_none ha h)]
  exact e a u ha
theorem but_mut {H H' : Hp} {d : Addr} {o : HO} (e : But d H H') (ho : ∀ c, At H' d c → ∃ r : List V, o = .lst (.ref c :: r)) : But d H (upd H' d o) := ⟨fun a u n ha => by
  rw [upd_ne n]
  exact e a u n ha, fun c h => by
  obtain ⟨r, z⟩ := ho c (e.hd c h)
  exact ⟨r, by rw [upd_same, z]⟩⟩
theorem but_mut2 {H H' : Hp} {d p : Addr} {o : HO} (e : But d H H') (h : H p = none) : But d H (upd H' p o) := ⟨fun a u n ha => by
  rw [upd_ne (ne_of_none ha h)]
  exact e a u n ha, fun c k => by
  obtain ⟨r, z⟩ := e.hd c k
  obtain ⟨_, y⟩ := k
  exact ⟨r, by rw [upd_ne (ne_of_none y h)]; exact z⟩⟩
theorem But.free {d : Addr} {H H' : Hp} (e : But d H H') {l : Addr} (n : l ≠ d) (h : H' l = none) : H l = none := by
  cases q : H l with
  | none => rfl
  | some o =>
    rw [e l o n q] at h
    cases h
theorem _root_.L2.Same.tup {K : PySem.W.Frag} {H H' : Hp} {a : Addr} {xs : List V} (e : Same H H') (h : SqT K H a xs) : SqT K H' a xs := by
  rcases h with (h | ⟨o, h⟩) | h
  · exact .inl (.inl (e _ _ h))
  · exact .inl (.inr ⟨o, e _ _ h⟩)
  · exact .inr h
theorem sz {n : Nat} (h : n ≤ 100000) : n ≤ sizeLine := Nat.le_trans h (by decide)
theorem szl {n : Nat} (h : n < 100000) : n < sizeLine := Nat.lt_of_lt_of_le h (by decide)
theorem szM {n : Nat} (h : n ≤ 1000000) : n < sizeLine := Nat.lt_of_le_of_lt h (by decide)
/-! ### arithmetic -/
theorem mul_bd {a b A B : Int} (ha : 0 ≤ a) (ha' : a ≤ A) (hb : 0 ≤ b) (hb' : b ≤ B) : 0 ≤ a * b ∧ a * b ≤ A * B :=
  ⟨Int.mul_nonneg ha hb, Int.mul_le_mul ha' hb' hb (Int.le_trans ha ha')⟩
theorem mod_bd (a : Int) {b : Int} (h : 0 < b) : 0 ≤ a % b ∧ a % b < b := ⟨Int.emod_nonneg a (by omega), Int.emod_lt_of_pos a h⟩
/-! ### xs.count(y), flat items -/
def rCntA (K : PySem.W.Frag) : V → List V → Hp → VK → Prop := fun x xs H Q => ∃ (p : Addr) (ys : List V) (y : V), x = .ref p ∧ xs = [y] ∧ SqL K H p ys ∧ flatV y = true ∧ ys.all flatV = true ∧ Q (.int (ys.countP (fun z => eqV z y) : Nat)) H
theorem countP_eqU {x : V} : ∀ {xs : List V} {us : List Value}, Vals xs us → xs.all flatV = true → us.countP (eqU x) = xs.countP fun y => eqV y x
  | _, _, .nil, _ => rfl
  | y :: xs, u :: us, .cons r t, f => by
    rw [List.all_cons, Bool.and_eq_true] at f
    rw [List.countP_cons, List.countP_cons, eqU_of r f.1, countP_eqU t f.2]
theorem mt_countA {X : Cx} : MtR X "list.count" (rCntA X.K) := by
  intro pins s σ H x xs v us Q I rx rxs h
  obtain ⟨p, ys, y, rfl, rfl, hs, fy, fs, q⟩ := h
  cases rx
  obtain ⟨u, rfl, ru⟩ := rxs.one
  obtain ⟨its, rv, ⟨⟨cls, dd, data, sl⟩, n, ho, hc, hdn, hd⟩, hlen⟩ := I.list hs
  simp only at hc hd
  subst hc hd
  refine call_meets PySem.F.slot_list_count ⟨_, ho, rfl⟩ PySem.F.entry_list_count (PySem.F.args_list_count_2 _ _)
    (SeqAt.list_countAt p its.toArray n dd sl u (eqU y)) ⟨ho, fun z hz => mem_eqAt ru fy rv fs z (by simpa using hz), ?_⟩
  have ec : its.toArray.toList.countP (eqU y) = ys.countP fun z => eqV z y := countP_eqU rv fs
  refine ⟨.int (ys.countP (fun z => eqV z y) : Nat), H, I.tok _, ⟨s.toks, ?_⟩, q⟩
  show Value.int ((its.toArray.toList.countP (eqU y) : Nat) : Int) s.toks = _
  rw [ec]
/-- while True -/
theorem pt_true {X : Cx} {j pos} : PT X (.Constant (.bool true) j pos) (fun _ H Q => Q true H) := by
  have h : PT X (.Constant (.bool true) j pos) (tB (tC (.bl true))) := pt_val pe_bl
  exact ⟨fun pins s σ H Q I q => h.run pins s σ H Q I ⟨true, rfl, q⟩⟩
/-- an item of a list of ints -/
theorem at_ints {ns : List Int} {v : Int} (h0 : 0 ≤ v) (h1 : v < ns.length) : ∃ x, x ∈ ns ∧ atI (ns.map V.int) v = some (.int x) := by
  obtain ⟨j, rfl⟩ := Int.eq_ofNat_of_zero_le h0
  have jl : j < ns.length := by omega
  refine ⟨ns[j], List.getElem_mem jl, atI_nat ?_⟩
  rw [List.getElem?_map, List.getElem?_eq_getElem jl]
  rfl
end Tw

/-! The draws: what each of the common defs promises. -/
namespace Tw
open PySem PySem.Spec PyProof.Rows L2

def pMix : V → V → Hp → VK → XK → Prop := fun a b H Q _ => ∃ c k : Int, a = .int c ∧ b = .int k ∧ 0 ≤ k ∧ k < 1000000000 ∧ ∀ v : Int, 0 ≤ v → Q (.int v) H
/-- a deck: its cells, where it stands, what is left of a great cell, how many were mixed, the sum -/
def Deck (H : Hp) (d : Addr) (n : Nat) : Prop := ∃ (c : Addr) (xs : List Int) (i r k t : Int), H d = some (.lst [.ref c, .int i, .int r, .int k, .int t]) ∧ H c = some (.lst (xs.map V.int)) ∧ c ≠ d ∧ xs.length ≤ 63 ∧ 0 ≤ i ∧ i ≤ (xs.length : Int) ∧ 0 ≤ r ∧ 0 ≤ k ∧ k ≤ (n : Int)
theorem Deck.mono {H : Hp} {d : Addr} {n m : Nat} (h : Deck H d n) (l : n ≤ m) : Deck H d m := by
  obtain ⟨c, xs, i, r, k, t, a1, a2, a3, a4, a5, a6, a7, a8, a9⟩ := h
  exact ⟨c, xs, i, r, k, t, a1, a2, a3, a4, a5, a6, a7, a8, by omega⟩
theorem Deck.same {H H' : Hp} {d : Addr} {n : Nat} (h : Deck H d n) (s : Same H H') : Deck H' d n := by
  obtain ⟨c, xs, i, r, k, t, a1, a2, a3⟩ := h
  exact ⟨c, xs, i, r, k, t, s _ _ a1, s _ _ a2, a3⟩
theorem Deck.ne {H : Hp} {d p : Addr} {n : Nat} (h : Deck H d n) (e : H p = none) : p ≠ d := by
  obtain ⟨c, xs, i, r, k, t, a1, _⟩ := h
  intro z
  rw [z, a1] at e
  cases e
theorem Deck.ne_tup {H : Hp} {d p : Addr} {n : Nat} {xs : List V} (h : Deck H d n) (e : H p = some (.tup xs)) : p ≠ d := by
  obtain ⟨c, xs, i, r, k, t, a1, _⟩ := h
  intro z
  rw [z, a1] at e
  cases e
theorem Deck.fresh {H H' : Hp} {d p : Addr} {n m : Nat} (h : Deck H d n) (h' : Deck H' d m) (b : But d H H') (e : H' p = none) : H p = none := b.free (h'.ne e) e
/-- a list that is none of the deck's -/
def Out (H : Hp) (d L : Addr) : Prop := L ≠ d ∧ ∀ c, At H d c → c ≠ L
theorem Deck.out {H : Hp} {d L : Addr} {n : Nat} {o : HO} (D : Deck H d n) (e : H L = none) : Out (upd H L o) d L := by
  obtain ⟨c, xs, i, r, k, t, a1, a2, a3⟩ := D
  have n1 : L ≠ d := fun z => by rw [z, a1] at e; cases e
  have n2 : c ≠ L := fun z => by rw [← z, a2] at e; cases e
  refine ⟨n1, fun c' h => ?_⟩
  obtain ⟨r', y⟩ := h
  rw [upd_ne (Ne.symm n1), a1] at y
  cases y
  exact n2
theorem Out.but {H H' : Hp} {d L : Addr} {n m : Nat} (h : Out H d L) (D : Deck H d n) (D' : Deck H' d m) (b : But d H H') : Out H' d L := by
  obtain ⟨c, xs, i, r, k, t, a1, a2, a3⟩ := D
  obtain ⟨r1, e1⟩ := b.hd c ⟨_, a1⟩
  refine ⟨h.1, fun c' hc => ?_⟩
  obtain ⟨r2, e2⟩ := hc
  rw [e1] at e2
  cases e2
  exact h.2 _ ⟨_, a1⟩
theorem Out.mut {H : Hp} {d L : Addr} {o : HO} (h : Out H d L) : Out (upd H L o) d L := ⟨h.1, fun c hc => h.2 c (by
  obtain ⟨r, e⟩ := hc
  rw [upd_ne (Ne.symm h.1)] at e
  exact ⟨r, e⟩)⟩
theorem Deck.mut {H : Hp} {d L : Addr} {n : Nat} {o : HO} (D : Deck H d n) (h : Out H d L) : Deck (upd H L o) d n := by
  obtain ⟨c, xs, i, r, k, t, a1, a2, a3⟩ := D
  exact ⟨c, xs, i, r, k, t, by rw [upd_ne (Ne.symm h.1)]; exact a1, by rw [upd_ne (h.2 c ⟨_, a1⟩)]; exact a2, a3⟩
def pDeck (K : PySem.W.Frag) : V → Hp → VK → XK → Prop := fun a H Q _ => ∃ (s : Addr) (xs : List Int), a = .ref s ∧ SqL K H s (xs.map V.int) ∧ ∀ H' d, Same H H' → H d = none → Deck H' d 0 → Q (.ref d) H'
/-- a draw below m -/
def pNext (c : Nat) : V → V → Hp → VK → XK → Prop := fun a b H Q _ => ∃ (d : Addr) (n : Nat) (m : Int), a = .ref d ∧ b = .int m ∧ 0 < m ∧ m < 1000000000000000000000000000000000000000000 ∧ Deck H d n ∧ n + c ≤ 100000000 ∧
  ∀ (H' : Hp) (v : Int), But d H H' → Deck H' d (n + c) → 0 ≤ v → v < m → Q (.int v) H'
/-- a bound -/
def pBound : V → V → Hp → VK → XK → Prop := fun a b H Q _ => ∃ (d : Addr) (n : Nat) (m : Int), a = .ref d ∧ b = .int m ∧ 100 ≤ m ∧ m ≤ 1000000000000 ∧ Deck H d n ∧ n < 90000000 ∧
  ∀ (H' : Hp) (v : Int), But d H H' → Deck H' d (n + 50) → 1 ≤ v → v ≤ m → Q (.int v) H'
/-- a rule (times, plus, bound), read at r -/
structure Rule (t p b : Int) : Prop where
  b1 : 1 ≤ b
  b2 : b ≤ 1000000000000
  t0 : 0 ≤ t
  t1 : t < b
  p0 : 0 ≤ p
  p1 : p < b
def pRule : V → V → Hp → VK → XK → Prop := fun a b H Q _ => ∃ (d : Addr) (n : Nat) (m : Int), a = .ref d ∧ b = .int m ∧ 100 ≤ m ∧ m ≤ 1000000000000 ∧ Deck H d n ∧ n < 80000000 ∧
  ∀ (H' : Hp) (r : Addr) (t p b : Int), But d H H' → Deck H' d (n + 60) → H r = none → H' r = some (.tup [.int t, .int p, .int b]) → Rule t p b → b ≤ m → Q (.ref r) H'
theorem cut_take (xs : List V) (n : Nat) : cutV xs none (some (n : Int)) = xs.take n := by
  unfold cutV
  rw [HT.sIx_none, HT.sIx_nat]
  show List.take (min n xs.length - 0) (List.drop 0 xs) = _
  rw [List.drop_zero, Nat.sub_zero]
  by_cases h : n ≤ xs.length
  · rw [Nat.min_eq_left h]
  · rw [Nat.min_eq_right (by omega), List.take_of_length_le (Nat.le_refl _), List.take_of_length_le (by omega)]
/-- the classes of the refusals as the top has left them -/
structure Err (K : PySem.W.Frag) (mg : Str → Option Value) (CR CA CB CF CN CU : Addr) : Prop where
  gR : mg "RowError" = some (.ref CR)
  gA : mg "NoAsk" = some (.ref CA)
  gB : mg "NoBack" = some (.ref CB)
  gF : mg "NoFit" = some (.ref CF)
  gN : mg "NoNumber" = some (.ref CN)
  gU : mg "NoRule" = some (.ref CU)
/-- an error's class against all: which of the five it is -/
structure Kit (K : PySem.W.Frag) (C CR CA CB CF CN CU : Addr) (a b f n u : Bool) : Prop where
  xc : XcC K C
  r : PySem.W.kitOne K (.ref C) (.ref CR) = some true
  v : PySem.W.kitOne K (.ref C) (.type "ValueError") = some true
  a : PySem.W.kitOne K (.ref C) (.ref CA) = some a
  b : PySem.W.kitOne K (.ref C) (.ref CB) = some b
  f : PySem.W.kitOne K (.ref C) (.ref CF) = some f
  n : PySem.W.kitOne K (.ref C) (.ref CN) = some n
  u : PySem.W.kitOne K (.ref C) (.ref CU) = some u
/-- a number that is none: kept by the error -/
def pKindN (CN : Addr) : V → Hp → VK → XK → Prop := fun a H Q _ => ∃ (e dd : Addr) (v : V), a = .ref e ∧ H e = some (exv e (.ref CN) (some dd)) ∧ H dd = some (.xd [("number", v)]) ∧
  ∀ H' p, Same H H' → H p = none → H' p = some (.tup [.str "number", v]) → Q (.ref p) H'
/-- a number that is none of a bound's -/
def pWrong : V → V → Hp → VK → XK → Prop := fun a b H Q _ => ∃ (d : Addr) (n : Nat) (m : Int), a = .ref d ∧ b = .int m ∧ 0 < m ∧ m ≤ 1000000000000 ∧ Deck H d n ∧ n + 4 ≤ 100000000 ∧
  ∀ (H' : Hp) (v : Int), But d H H' → Deck H' d (n + 4) → (v < 0 ∨ m ≤ v) → Q (.int v) H'
end Tw

/-! The program's steps and rounds: the mathematics of a walk, and the promises. -/
namespace Tw
open PySem PySem.Spec PyProof.Rows L2

/-! ### walks -/
def stp (t p m x : Int) : Int := (t * x + p) % m
theorem stp_rng {t p m : Int} (h : 0 < m) (x : Int) : 0 ≤ stp t p m x ∧ stp t p m x < m := mod_bd _ h
def wk (f : Int → Int) : Nat → List Int → Int → List Int × Int
  | 0, ws, x => (ws, x)
  | k + 1, ws, x => if x ∈ ws then (ws, x) else wk f k (ws ++ [x]) (f x)
theorem wk_in {f : Int → Int} {ws : List Int} {x : Int} (h : x ∈ ws) : ∀ k, wk f k ws x = (ws, x)
  | 0 => rfl
  | k + 1 => by unfold wk; rw [if_pos h]
theorem wk_out {f : Int → Int} {ws : List Int} {x : Int} (h : x ∉ ws) (k : Nat) : wk f (k + 1) ws x = wk f k (ws ++ [x]) (f x) := by
  conv => lhs; unfold wk
  rw [if_neg h]
theorem nat_len : ∀ (n : Nat) (l : List Nat), l.Nodup → (∀ x ∈ l, x < n) → l.length ≤ n
  | 0, l, _, h => by
    cases l with
    | nil => exact Nat.le_refl _
    | cons a r => exact absurd (h a List.mem_cons_self) (Nat.not_lt_zero _)
  | n + 1, l, nd, h => by
    by_cases hn : n ∈ l
    · have ih := nat_len n (l.erase n) (nd.erase n) (fun x hx => by
        obtain ⟨h1, h2⟩ := nd.mem_erase_iff.mp hx
        have := h x h2
        omega)
      rw [List.length_erase_of_mem hn] at ih
      omega
    · have ih := nat_len n l nd (fun x hx => by
        have := h x hx
        have : x ≠ n := fun e => hn (e ▸ hx)
        omega)
      omega
def Rng (m : Int) (ws : List Int) : Prop := ∀ x ∈ ws, 0 ≤ x ∧ x < m
theorem int_len {m : Int} {ws : List Int} (nd : ws.Nodup) (h : Rng m ws) : ws.length ≤ m.toNat := by
  have h1 : (ws.map Int.toNat).Nodup := by
    rw [List.nodup_iff_pairwise_ne] at nd ⊢
    rw [List.pairwise_map]
    refine List.Pairwise.imp_of_mem (fun {a b} ha hb hne => ?_) nd
    have := h a ha
    have := h b hb
    omega
  have := nat_len m.toNat (ws.map Int.toNat) h1 (fun x hx => by
    obtain ⟨y, hy, rfl⟩ := List.mem_map.mp hx
    have := h y hy
    omega)
  rw [List.length_map] at this
  exact this
theorem nodup_snoc {ws : List Int} {x : Int} (nd : ws.Nodup) (h : x ∉ ws) : (ws ++ [x]).Nodup := by
  rw [List.nodup_append]
  refine ⟨nd, by simp, fun a ha b hb => ?_⟩
  rw [List.mem_singleton] at hb
  subst hb
  exact fun e => h (e ▸ ha)
theorem rng_snoc {m : Int} {ws : List Int} {x : Int} (h : Rng m ws) (hx : 0 ≤ x ∧ x < m) : Rng m (ws ++ [x]) := fun y hy => by
  rcases List.mem_append.mp hy with hy | hy
  · exact h y hy
  · rw [List.mem_singleton.mp hy]; exact hx
theorem wk_good {t p m : Int} (m0 : 0 < m) : ∀ (k : Nat) (ws : List Int) (x : Int), ws.Nodup → Rng m ws → 0 ≤ x ∧ x < m → m.toNat + 1 ≤ k + ws.length →
    (wk (stp t p m) k ws x).1.Nodup ∧ Rng m (wk (stp t p m) k ws x).1 ∧ (wk (stp t p m) k ws x).2 ∈ (wk (stp t p m) k ws x).1
  | 0, ws, x, nd, rg, hx, hk => by
    have := int_len nd rg
    omega
  | k + 1, ws, x, nd, rg, hx, hk => by
    by_cases h : x ∈ ws
    · rw [wk_in h]
      exact ⟨nd, rg, h⟩
    · rw [wk_out h]
      exact wk_good m0 k (ws ++ [x]) (stp t p m x) (nodup_snoc nd h) (rng_snoc rg hx) (stp_rng m0 x) (by rw [List.length_append]; show m.toNat + 1 ≤ k + (ws.length + 1); omega)
/-! ### a dict of places -/
def enumD : Nat → List Int → List (Key × V)
  | _, [] => []
  | i, w :: ws => (Sum.inl w, V.int (i : Int)) :: enumD (i + 1) ws
theorem enumD_len : ∀ (i : Nat) (ws : List Int), (enumD i ws).length = ws.length
  | _, [] => rfl
  | i, w :: ws => by show (enumD (i + 1) ws).length + 1 = ws.length + 1; rw [enumD_len]
theorem enumD_snoc : ∀ (i : Nat) (ws : List Int) (x : Int), enumD i (ws ++ [x]) = enumD i ws ++ [(Sum.inl x, V.int ((i + ws.length : Nat) : Int))]
  | i, [], x => rfl
  | i, w :: ws, x => by
    show (Sum.inl w, V.int (i : Int)) :: enumD (i + 1) (ws ++ [x]) = (Sum.inl w, V.int (i : Int)) :: enumD (i + 1) ws ++ [(Sum.inl x, V.int ((i + (ws.length + 1) : Nat) : Int))]
    rw [enumD_snoc, show i + 1 + ws.length = i + (ws.length + 1) by omega]
    rfl
theorem enumD_none : ∀ (i : Nat) {ws : List Int} {x : Int}, x ∉ ws → valV (enumD i ws) (Sum.inl x) = none
  | _, [], _, _ => rfl
  | i, w :: ws, x, h => by
    show valV ((Sum.inl w, V.int (i : Int)) :: enumD (i + 1) ws) (Sum.inl x) = none
    rw [valV_neg (fun e => h (by rw [← Sum.inl.inj e]; exact List.mem_cons_self))]
    exact enumD_none (i + 1) (fun hm => h (List.mem_cons_of_mem _ hm))
theorem enumD_some : ∀ (i : Nat) {ws : List Int} {x : Int}, x ∈ ws → valV (enumD i ws) (Sum.inl x) = some (V.int ((i + ws.idxOf x : Nat) : Int))
  | i, w :: ws, x, h => by
    show valV ((Sum.inl w, V.int (i : Int)) :: enumD (i + 1) ws) (Sum.inl x) = _
    by_cases e : w = x
    · subst e
      rw [valV_pos rfl, List.idxOf_cons_self]
      rfl
    · have e2 : (w :: ws).idxOf x = ws.idxOf x + 1 := by
        rw [List.idxOf_cons]
        simp [beq_eq_false_iff_ne.mpr e]
      rw [valV_neg (fun z => e (Sum.inl.inj z)), e2, enumD_some (i + 1) ((List.mem_cons.mp h).resolve_left (fun z => e z.symm))]
      congr 2
      omega
theorem upd_self {H : Hp} {a : Addr} {o : HO} (h : H a = some o) : upd H a o = H := by
  funext b
  by_cases e : b = a
  · rw [e, upd_same, h]
  · rw [upd_ne e]
theorem sqT_upd {K : PySem.W.Frag} {H : Hp} {r a : Addr} {xs : List V} {o u : HO} (h : SqT K H r xs) (ha : H a = some u) (n1 : ∀ ys, u ≠ .tup ys) (n2 : ∀ ob v, u ≠ .frz ob v) : SqT K (upd H a o) r xs := by
  rcases h with (h | ⟨ob, h⟩) | h
  · refine .inl (.inl ?_)
    rw [upd_ne (fun e => n1 xs (by rw [e, ha] at h; exact Option.some.inj h))]
    exact h
  · refine .inl (.inr ⟨ob, ?_⟩)
    rw [upd_ne (fun e => n2 ob _ (by rw [e, ha] at h; exact Option.some.inj h))]
    exact h
  · exact .inr h
/-! ### refusals -/
/-- the error behind a number that is none: its own dict d, new -/
def Bad (CN : Addr) (n : Int) (H : Hp) (E : XK) : Prop := ∀ d, H d = none → E (.ref CN) (some d) (upd H d (.xd [("number", .int n)]))
theorem made_eq {H : Hp} {a d : Addr} {C : Addr} {fs : List (Str × V)} (na : H a = none) (nd : d ≠ a) :
    upd (L2.del (upd (upd (upd H a (exo a C none)) d (exd d fs)) a (exo a C (some d))) a) d (.xd fs) = upd H d (.xd fs) := by
  funext b
  by_cases hb : b = d
  · rw [hb, upd_same, upd_same]
  · rw [upd_ne hb, upd_ne hb]
    by_cases ha : b = a
    · rw [ha, del_same, na]
    · rw [del_ne ha, upd_ne ha, upd_ne hb, upd_ne ha]
def spInit (K : PySem.W.Frag) : Sp := sp2 fun x v H Q _ => ∃ (a C : Addr), x = .ref a ∧ OexC K C ∧ PySem.W.findIn K (.ref C) "number" = some none ∧ H a = some (exo a C none) ∧ ∀ d, H d = none → d ≠ a → Q .non (upd (upd H d (exd d [("number", v)])) a (exo a C (some d)))
def pWhole : V → Hp → VK → XK → Prop := fun a H Q _ => ∃ n : Int, a = .int n ∧ Q (.bl true) H
def pIsNum : V → V → Hp → VK → XK → Prop := fun a b H Q _ => ∃ n m : Int, a = .int n ∧ b = .int m ∧ Q (.bl (decide (0 ≤ n ∧ n < m))) H
def pCheck (CN : Addr) : V → V → Hp → VK → XK → Prop := fun a b H Q E => ∃ n m : Int, a = .int n ∧ b = .int m ∧ (0 ≤ n → n < m → Q .non H) ∧ (¬ (0 ≤ n ∧ n < m) → Bad CN n H E)
def pNextOf (K : PySem.W.Frag) (CN : Addr) : V → V → Hp → VK → XK → Prop := fun a b H Q E => ∃ (r : Addr) (t p m n : Int), a = .ref r ∧ b = .int n ∧ SqT K H r [.int t, .int p, .int m] ∧ Rule t p m ∧
  (0 ≤ n → n < m → Q (.int (stp t p m n)) H) ∧ (¬ (0 ≤ n ∧ n < m) → Bad CN n H E)
def pWalk (K : PySem.W.Frag) : V → V → V → Hp → VK → XK → Prop := fun a b c H Q _ => ∃ (r : Addr) (t p m s : Int) (l : Addr) (ws : List Int), a = .ref r ∧ b = .int s ∧ c = .ref l ∧ SqT K H r [.int t, .int p, .int m] ∧ Rule t p m ∧ m ≤ 1000000 ∧ 0 ≤ s ∧ s < m ∧
  H l = some (.dK (enumD 0 ws)) ∧ ws.Nodup ∧ Rng m ws ∧ Q (.int (wk (stp t p m) (m.toNat + 1 - ws.length) ws s).2) (upd H l (.dK (enumD 0 (wk (stp t p m) (m.toNat + 1 - ws.length) ws s).1)))
/-- tail and length -/
def rndW (t p m s : Int) : List Int × Int := wk (stp t p m) (m.toNat + 1) [] s
def rndT (t p m s : Int) : Int := (((rndW t p m s).1.idxOf (rndW t p m s).2 : Nat) : Int)
def rndL (t p m s : Int) : Int := ((rndW t p m s).1.length : Int) - rndT t p m s
def pRound (K : PySem.W.Frag) (CN : Addr) : V → V → Hp → VK → XK → Prop := fun a b H Q E => ∃ (r : Addr) (t p m s : Int), a = .ref r ∧ b = .int s ∧ SqT K H r [.int t, .int p, .int m] ∧ Rule t p m ∧ m ≤ 1000000 ∧
  (0 ≤ s → s < m → ∀ H' q, Same H H' → H q = none → H' q = some (.tup [.int (rndT t p m s), .int (rndL t p m s)]) → Q (.ref q) H') ∧ (¬ (0 ≤ s ∧ s < m) → Bad CN s H E)
def pRoundL (K : PySem.W.Frag) : V → V → Hp → VK → XK → Prop := fun a b H Q _ => ∃ (r : Addr) (t p m s : Int), a = .ref r ∧ b = .int s ∧ SqT K H r [.int t, .int p, .int m] ∧ Rule t p m ∧ m ≤ 1000000 ∧ 0 ≤ s ∧ s < m ∧
  ∀ H' q, Same H H' → H q = none → H' q = some (.tup [.int (rndT t p m s), .int (rndL t p m s)]) → Q (.ref q) H'
/-- a refusal that was asked for: True -/
def pRefR (K : PySem.W.Frag) : V → V → Hp → VK → XK → Prop := fun a b H Q _ => ∃ (r : Addr) (t p m n : Int), a = .ref r ∧ b = .int n ∧ SqT K H r [.int t, .int p, .int m] ∧ Rule t p m ∧ m ≤ 1000000 ∧ (n < 0 ∨ m ≤ n) ∧ ∀ H', Same H H' → Q (.bl true) H'
/-- data that are alike -/
theorem eqv_self {d : PyData} (h : SeqAt.shaped d = true) : PyData.eqv d d = true := SeqAt.eqv_refl d (SeqAt.canLay_of_shaped h)
theorem shp_sn (n : Int) : SeqAt.shaped (.tuple [.str "number", .int n]) = true := by
  have h : PyData.canLay0 (.str "number") = true := by decide +kernel
  show (PyData.canLay0 (.tuple [.str "number", .int n]) && decide (PyData.depth (.tuple [.str "number", .int n]) ≤ 64)) = true
  simp [PyData.canLay0, PyData.canLayAll0] at h ⊢
  exact ⟨h, of_decide_eq_true rfl⟩
theorem dp_ints {K : PySem.W.Frag} {H : Hp} : ∀ ns : List Int, DpAll K H (ns.map V.int) (ns.map PyData.int)
  | [] => .nil
  | n :: ns => .cons (.int n) (dp_ints ns)
/-! ### what the top has left -/
theorem top_mk {K : PySem.W.Frag} {h : Heap} {mg : Str → Option Value} {x : Str} {st : Stmt} {ps : List Str} {f : Addr} {oc : Value} {od an : Option Addr} {sl : Array (Option Value)} {kV dc pm cd ct : Value} (X : K.In h) (G : h.Ns mainGlobals mg)
    (a : PySem.W.nsIn K mainGlobals x = some (some (.ref f))) (l : K.lookup f = some ⟨oc, od, .func (PySem.W.fnOf x x (defArgs st) (defBody st) (defScope st) .none kV dc pm an cd ct), sl⟩) (c : PySem.W.codeIn K cd x = true) (k : PySem.W.keepIn K (.ref f) = true)
    (hb : ∀ (kV doc pm : Value) (an : Option Addr) (cdv ct : Value) (us : List Value), us.length = ps.length → bindArgs (PySem.W.fnOf x x (defArgs st) (defBody st) (defScope st) .none kV doc pm an cdv ct) ⟨us, []⟩ = pure (ps.zip us)) : Top K mg x st ps :=
  ⟨f, _, fun_mk l c k, PySem.W.mg_of X G a, (fun_mk l c k).binds hb⟩
end Tw

/-! Steps from one number to another. -/
namespace Tw
open PySem PySem.Spec PyProof.Rows L2
/-- what steps_to tells of a start and a number -/
def stV (t p m s n : Int) : V := if n ∈ (rndW t p m s).1 then .int (((rndW t p m s).1.idxOf n : Nat) : Int) else .non
def pSteps (K : PySem.W.Frag) (CN : Addr) : V → V → V → Hp → VK → XK → Prop := fun a b c H Q E => ∃ (r : Addr) (t p m s n : Int), a = .ref r ∧ b = .int s ∧ c = .int n ∧ SqT K H r [.int t, .int p, .int m] ∧ Rule t p m ∧ m ≤ 1000000 ∧
  ((0 ≤ s ∧ s < m) → (0 ≤ n ∧ n < m) → ∀ H', Same H H' → Q (stV t p m s n) H') ∧ (¬ (0 ≤ s ∧ s < m) → Bad CN s H E) ∧ ((0 ≤ s ∧ s < m) → ¬ (0 ≤ n ∧ n < m) → Bad CN n H E)
def seenD (ws : List Int) : List (Key × V) := ws.map fun x => (Sum.inl x, V.bl true)
theorem seenD_none : ∀ {ws : List Int} {x : Int}, x ∉ ws → valV (seenD ws) (Sum.inl x) = none
  | [], _, _ => rfl
  | w :: ws, x, h => by
    show valV ((Sum.inl w, V.bl true) :: seenD ws) (Sum.inl x) = none
    rw [valV_neg (fun e => h (by rw [← Sum.inl.inj e]; exact List.mem_cons_self))]
    exact seenD_none (fun hm => h (List.mem_cons_of_mem _ hm))
theorem seenD_some : ∀ {ws : List Int} {x : Int}, x ∈ ws → valV (seenD ws) (Sum.inl x) = some (.bl true)
  | w :: ws, x, h => by
    show valV ((Sum.inl w, V.bl true) :: seenD ws) (Sum.inl x) = _
    by_cases e : w = x
    · subst e
      rw [valV_pos rfl]
    · rw [valV_neg (fun z => e (Sum.inl.inj z)), seenD_some ((List.mem_cons.mp h).resolve_left (fun z => e z.symm))]
theorem seenD_snoc (ws : List Int) (x : Int) : seenD (ws ++ [x]) = seenD ws ++ [(Sum.inl x, V.bl true)] := List.map_append
def pRowL (K : PySem.W.Frag) : V → V → Hp → VK → XK → Prop := fun a b H Q _ => ∃ (r : Addr) (t p m s : Int), a = .ref r ∧ b = .int s ∧ SqT K H r [.int t, .int p, .int m] ∧ Rule t p m ∧ m ≤ 1000000 ∧ 0 ≤ s ∧ s < m ∧
  ∀ H' q, Same H H' → H q = none → H' q = some (.lst ((rndW t p m s).1.map V.int)) → Q (.ref q) H'
def pTold (K : PySem.W.Frag) : V → V → V → Hp → VK → XK → Prop := fun a b c H Q _ => ∃ (r : Addr) (t p m s n : Int), a = .ref r ∧ b = .int s ∧ c = .int n ∧ SqT K H r [.int t, .int p, .int m] ∧ Rule t p m ∧ m ≤ 1000000 ∧
  ((0 ≤ s ∧ s < m) → (0 ≤ n ∧ n < m) → ∀ H' q, Same H H' → H q = none → H' q = some (.lst [stV t p m s n]) → Q (.ref q) H') ∧
  (¬ (0 ≤ s ∧ s < m) → ∀ H' q, Same H H' → H q = none → H' q = some (.tup [.str "number", .int s]) → Q (.ref q) H') ∧
  ((0 ≤ s ∧ s < m) → ¬ (0 ≤ n ∧ n < m) → ∀ H' q, Same H H' → H q = none → H' q = some (.tup [.str "number", .int n]) → Q (.ref q) H')
theorem eqV_int (a b : Int) : eqV (.int a) (.int b) = (a == b) := rfl
theorem flat_ints (ns : List Int) : (ns.map V.int).all flatV = true := by
  rw [List.all_eq_true]
  intro x hx
  obtain ⟨y, _, rfl⟩ := List.mem_map.mp hx
  rfl
theorem inV_ints (n : Int) (ns : List Int) : inV (.int n) (ns.map V.int) = decide (n ∈ ns) := by
  unfold inV
  rw [Bool.eq_iff_iff, List.any_eq_true, decide_eq_true_eq]
  constructor
  · rintro ⟨x, hx, e⟩
    obtain ⟨y, hy, rfl⟩ := List.mem_map.mp hx
    have : y = n := by simpa [eqV_int] using e
    exact this ▸ hy
  · intro h
    exact ⟨.int n, List.mem_map.mpr ⟨n, h, rfl⟩, by simp [eqV_int]⟩
/-- the first place of a number in a list of ints, as index asks it -/
theorem idx_ints {n : Int} {ns : List Int} (h : n ∈ ns) : (ns.map V.int)[ns.idxOf n]? = some (.int n) ∧ ∀ (j : Nat) (z : V), j < ns.idxOf n → (ns.map V.int)[j]? = some z → eqV z (.int n) = false := by
  have hl := List.idxOf_lt_length_of_mem h
  constructor
  · rw [List.getElem?_map, List.getElem?_eq_getElem hl, List.getElem_idxOf hl]
    rfl
  · intro j z hj hz
    rw [List.getElem?_map] at hz
    have jl : j < ns.length := by omega
    rw [List.getElem?_eq_getElem jl] at hz
    obtain rfl : V.int ns[j] = z := Option.some.inj hz
    rw [eqV_int]
    refine beq_eq_false_iff_ne.mpr fun e => ?_
    have := List.not_of_lt_findIdx (p := fun x => x == n) (xs := ns) (i := j) hj
    simp [e] at this
theorem idx_app {n : Int} {ns : List Int} (h : n ∈ ns) : (ns ++ [n]).idxOf n = ns.idxOf n := by
  rw [List.idxOf_append, if_pos h]
end Tw

/-! Rows, and rests by taking away. -/
namespace Tw
open PySem PySem.Spec PyProof.Rows L2
def itr (f : Int → Int) : Nat → Int → Int
  | 0, x => x
  | n + 1, x => f (itr f n x)
def orb (f : Int → Int) (n : Nat) (x : Int) : List Int := (List.range n).map fun i => itr f i x
theorem orb_succ (f : Int → Int) (n : Nat) (x : Int) : orb f (n + 1) x = orb f n x ++ [itr f n x] := by
  unfold orb
  rw [List.range_succ, List.map_append]
  rfl
theorem orb_len (f : Int → Int) (n : Nat) (x : Int) : (orb f n x).length = n := by
  unfold orb
  rw [List.length_map, List.length_range]
theorem itr_rng {t p m s : Int} (m0 : 0 < m) (h : 0 ≤ s ∧ s < m) : ∀ n, 0 ≤ itr (stp t p m) n s ∧ itr (stp t p m) n s < m
  | 0 => h
  | n + 1 => stp_rng m0 _
def pRowFrom (K : PySem.W.Frag) (CN : Addr) : V → V → V → Hp → VK → XK → Prop := fun a b c H Q E => ∃ (r : Addr) (t p m s n : Int), a = .ref r ∧ b = .int s ∧ c = .int n ∧ SqT K H r [.int t, .int p, .int m] ∧ Rule t p m ∧ 0 ≤ n ∧ n ≤ 100000 ∧
  (0 ≤ s → s < m → ∀ H' q, Same H H' → H q = none → H' q = some (.tup ((orb (stp t p m) n.toNat s).map V.int)) → Q (.ref q) H') ∧ (¬ (0 ≤ s ∧ s < m) → Bad CN s H E)
def pRowLaw (K : PySem.W.Frag) : V → V → V → Hp → VK → XK → Prop := fun a b c H Q _ => ∃ (r : Addr) (t p m s n : Int), a = .ref r ∧ b = .int s ∧ c = .int n ∧ SqT K H r [.int t, .int p, .int m] ∧ Rule t p m ∧ 0 ≤ n ∧ n ≤ 100000 ∧ 0 ≤ s ∧ s < m ∧
  ∀ H' q, Same H H' → H q = none → H' q = some (.tup ((orb (stp t p m) n.toNat s).map V.int)) → Q (.ref q) H'
def pRest : V → V → Hp → VK → XK → Prop := fun a b H Q _ => ∃ x m : Int, a = .int x ∧ b = .int m ∧ 0 ≤ x ∧ x < 10000000000000000000000000 ∧ 1 ≤ m ∧ m ≤ 1000000000000 ∧ ∀ H', Same H H' → Q (.int (x % m)) H'
def pWhole2 : V → V → Hp → VK → XK → Prop := fun a b H Q _ => ∃ x : Int, a = .int x ∧ b = .int x ∧ Q (.bl true) H
def pRef2 (K : PySem.W.Frag) : V → V → V → Hp → VK → XK → Prop := fun a b c H Q _ => ∃ (r : Addr) (t p m n k : Int), a = .ref r ∧ b = .int n ∧ c = .int k ∧ SqT K H r [.int t, .int p, .int m] ∧ Rule t p m ∧ 0 ≤ k ∧ k ≤ 100000 ∧ (n < 0 ∨ m ≤ n) ∧ ∀ H', Same H H' → Q (.bl true) H'
theorem lay_ints : ∀ ns : List Int, PyData.canLayAll0 (ns.map PyData.int) = true ∧ PyData.depthAll (ns.map PyData.int) = 0
  | [] => ⟨rfl, rfl⟩
  | n :: ns => by
    obtain ⟨h1, h2⟩ := lay_ints ns
    constructor
    · show (PyData.canLay0 (.int n) && PyData.canLayAll0 (ns.map PyData.int)) = true
      rw [h1]
      rfl
    · show max (PyData.depth (.int n)) (PyData.depthAll (ns.map PyData.int)) = 0
      rw [h2]
      rfl
theorem shp_ints (ns : List Int) : SeqAt.shaped (.tuple (ns.map PyData.int)) = true := by
  obtain ⟨h1, h2⟩ := lay_ints ns
  show (PyData.canLayAll0 (ns.map PyData.int) && decide (PyData.depthAll (ns.map PyData.int) + 1 ≤ 64)) = true
  rw [h1, h2]
  rfl
theorem shp_lints (ns : List Int) : SeqAt.shaped (.list (ns.map PyData.int)) = true := by
  obtain ⟨h1, h2⟩ := lay_ints ns
  show (PyData.canLayAll0 (ns.map PyData.int) && decide (PyData.depthAll (ns.map PyData.int) + 1 ≤ 64)) = true
  rw [h1, h2]
  rfl
theorem two_pos (k : Nat) : (1 : Int) ≤ 2 ^ k := Int.pow_pos (by decide)
theorem two_small {k : Nat} {b x : Int} (hb : 1 ≤ b) (h : 2 ^ k * b ≤ x) (hx : x < 10000000000000000000000000) : k < 84 := by
  refine Nat.lt_of_not_le fun hk => ?_
  obtain ⟨j, rfl⟩ : ∃ j, k = 84 + j := ⟨k - 84, by omega⟩
  have e : (2 : Int) ^ (84 + j) = 2 ^ 84 * 2 ^ j := Int.pow_add ..
  have h1 := two_pos j
  have h2 : (2 : Int) ^ 84 * 1 ≤ 2 ^ 84 * 2 ^ j := Int.mul_le_mul_of_nonneg_left h1 (by decide)
  have h3 : (2 : Int) ^ (84 + j) * 1 ≤ 2 ^ (84 + j) * b := Int.mul_le_mul_of_nonneg_left hb (by have := two_pos (84 + j); omega)
  have h4 : (2 : Int) ^ 84 = 19342813113834066795298816 := by decide
  omega
def dbl (b : Int) (k : Nat) : List Int := (List.range (k + 1)).map fun i => 2 ^ i * b
theorem dbl_succ (b : Int) (k : Nat) : dbl b (k + 1) = dbl b k ++ [2 * (2 ^ k * b)] := by
  unfold dbl
  rw [List.range_succ (n := k + 1), List.map_append]
  show _ ++ [2 ^ (k + 1) * b] = _
  rw [Int.pow_succ, Int.mul_comm (2 ^ k) 2, Int.mul_assoc]
theorem dbl_last (b : Int) : ∀ k, ∃ l, dbl b k = l ++ [2 ^ k * b]
  | 0 => ⟨[], rfl⟩
  | k + 1 => ⟨dbl b k, by rw [dbl_succ, Int.pow_succ, Int.mul_comm (2 ^ k) 2, Int.mul_assoc]⟩
theorem dbl_len (b : Int) (k : Nat) : (dbl b k).length = k + 1 := by
  unfold dbl
  rw [List.length_map, List.length_range]
theorem dbl_rev {b : Int} {k i : Nat} (h : i ≤ k) : (dbl b k).reverse[i]? = some (2 ^ (k - i) * b) := by
  rw [List.getElem?_reverse (by rw [dbl_len]; omega), dbl_len]
  unfold dbl
  rw [List.getElem?_map, List.getElem?_range (by omega)]
  show some (2 ^ (k + 1 - 1 - i) * b) = _
  rw [show k + 1 - 1 - i = k - i by omega]
theorem two_half {b : Int} {k i : Nat} (h : i ≤ k) : (2 : Int) ^ (k + 1 - i) * b = 2 * (2 ^ (k - i) * b) := by
  rw [show k + 1 - i = (k - i) + 1 by omega, Int.pow_succ, Int.mul_comm (2 ^ (k - i)) 2, Int.mul_assoc]
end Tw

/-! Rules of my own: set(list of ints), sorted(set) and sorted(d.items()) of any size. -/
namespace Tw
open PySem PySem.Spec PyProof.Rows L2
/-- a set as it is made -/
abbrev noneYet (w : World) : Obj := { cls := .type "set", dict := none, data := .set #[] 0 (.fresh 0 0 (!w.params.followText "set-order")) }
section
variable {P : Program} {w : World} {A : Around} {E : Value → Shared → Prop} {s : Shared}
theorem set_made {q : Addr} {xs : Array Value} (ks : List Int) {Q : Value → Shared → Prop} (nh : A.handled = none) (hq : s.heap.IsList q xs) (hx : IntsAre xs.toList ks) (few : ks.length + 1 < scanBound)
    (go : ∀ (g : Heap) (k c : Nat), SetR w g s.heap.objs.size (fun j => decide (j ∈ ks)) c → (∀ b o, s.heap.get? b = some o → g.get? b = some o) → Q (.ref s.heap.objs.size) { s with heap := g, toks := k }) :
    wpAny (model P w) A (call (.type "set") [.ref q]) Q E s := by
  have sz : xs.size = ks.length := (Array.length_toList (xs := xs)).symm.trans (IntsAre.length hx)
  have at_ : ∀ (i : Nat) (v : Value), xs[i]? = some v → ∃ k t, ks[i]? = some k ∧ v = .int k t := by
    intro i v hv
    have il : i < ks.length := by
      rw [← sz]
      exact (Array.getElem?_eq_some_iff.mp hv).1
    obtain ⟨t, e⟩ := PyProof.Rows.IntsAre.int_at hx i v ((Array.getElem?_toList).trans hv)
    refine ⟨ks[i], t, List.getElem?_eq_getElem il, e.trans ?_⟩
    rw [List.getD_eq_getElem?_getD, List.getElem?_eq_getElem il]
    rfl
  have new0 : (s.heap.push (noneYet w)).get? s.heap.objs.size = some (noneYet w) := Heap.get?_push_size _ rfl
  obtain ⟨_, _, m1⟩ := F.called_set.mro
  have m2 := F.called_set.made
  have m3 := F.called_set.sub
  have m4 := F.called_set.notType
  have m5 := F.called_set.canCreate
  have m6 := F.typeCall_set_1 (.ref q)
  refine wpAny_call (codeAny_of_tree ?_)
  show wpAny _ _ (callAny (.type "set") _) _ _ _
  refine wpAny_pure ⟨Code.quiet_builtin _ (by decide +kernel), codeAny_builtin F.entry_type_call ?_⟩
  rw [Around.under_plain (weight_type_call_type "set" [.ref q] []) rfl]
  repeat (any_goals (first | assumption | wp_step))
  refine codeAny_mono (code_set_led1 (.ref q) (E := E) (Q₁ := fun o s1 => o = .ref s.heap.objs.size ∧ s1 = { s with heap := s.heap.push (noneYet w) }) ⟨rfl, rfl⟩) fun r s1 h1 => ?_
  cases r with
  | error e => exact h1
  | ok fl =>
    cases fl with
    | ret o =>
      obtain ⟨rfl, rfl⟩ := h1
      have ty : Shared.TypeIs { s with heap := s.heap.push (noneYet w) } (.ref s.heap.objs.size) "set" := ⟨_, new0, rfl⟩
      have n1 := F.called_set.init.lookup
      have n2 := F.called_set.init.bind (.ref s.heap.objs.size)
      repeat (any_goals (first | assumption | wp_step))
      refine codeAny_mono (codeAny_call_builtin (R := wants (fun v s2 => v = .none ∧ ∃ g k c, s2 = { s with heap := g, toks := k } ∧ SetR w g s.heap.objs.size (fun j => decide (j ∈ ks)) c ∧ (∀ b o, s.heap.get? b = some o → g.get? b = some o)) E)
        F.called_set.init.plain F.entry_set_init (check_set_init_1 ty ?_)) fun r2 s2 h2 => ?_
      · obtain ⟨⟨oc, od, oa, os⟩, gq, cq, nq, dq⟩ := hq
        simp only at cq dq
        subst cq dq
        have gq1 : (s.heap.push (noneYet w)).get? q = some { cls := .type "list", dict := od, data := .seq xs nq, slots := os } := Heap.get?_push_of_some _ gq
        have u1 := F.sub_list_set
        have u2 := F.sub_list_frozenset
        have u3 : (Value.type "list" == Value.type "dict") = false := by decide
        have lq : (s.heap.push (noneYet w)).IsList q xs := ⟨_, gq1, rfl, nq, rfl⟩
        have below : q < s.heap.objs.size := Heap.lt_size gq
        have sz1 : (s.heap.push (noneYet w)).objs.size = s.heap.objs.size + 1 := Heap.size_push ..
        have nh3 : A.in1.in1.in1.handled = none := by simp [nh]
        unfold Builtin.«set.__init__» noKeywords Builtin.Frozenset.updateFrom
        generalize hIt : pyIter = It
        wp_walk
        subst hIt
        refine wpAny_pyIter_list lq ?_
        refine wpAny_bind (wpAny_runValue ?_)
        have ne1 : q ≠ (s.heap.push (noneYet w)).objs.size := by rw [sz1]; exact Nat.ne_of_lt (Nat.lt_succ_of_lt below)
        have ne2 : s.heap.objs.size ∉ [(s.heap.push (noneYet w)).objs.size, q] := by
          rw [sz1]
          intro z
          rcases List.mem_cons.mp z with z | z
          · omega
          · exact absurd (List.mem_singleton.mp z).symm (Nat.ne_of_lt below)
        refine set_update_ints ((Walks.list nh3 _ q ne1 xs).toS) s.heap.objs.size ne2 ks sz few at_ xs.size 0 _ (by omega) (Nat.zero_le _) ⟨⟨_, Heap.get?_push_size _ rfl, rfl, rfl⟩, lq.push _⟩ ⟨0, Nat.le_refl 0, setR_new_at (Heap.get?_push_of_some _ new0)⟩ ?_
        intro s3 c mv _ R3
        obtain ⟨g, gn, dr, k, ox⟩ := s3
        have e1 : gn = s.gens := mv.gens
        have e2 : dr = s.drawn := mv.drawn
        have e3 : ox = s.os := mv.os
        subst e1 e2 e3
        show wpAny _ _ _ _ _ _
        refine wpAny_pure ?_
        show wpAny _ _ (ret Value.none) _ _ _
        refine wpAny_pure ⟨rfl, g, k, c, rfl, R3, fun b o e => ?_⟩
        have lb := Heap.lt_size e
        refine mv.heap b o (fun z => ?_) (Heap.get?_push_of_some _ (Heap.get?_push_of_some _ e))
        rcases List.mem_cons.mp z with z | z
        · exact absurd z (Nat.ne_of_lt lb)
        · rw [List.mem_singleton, sz1] at z
          exact absurd z (Nat.ne_of_lt (Nat.lt_succ_of_lt lb))
      · cases r2 with
        | error e => exact h2
        | ok fl2 =>
          cases fl2 with
          | ret v =>
            obtain ⟨rfl, g, k, c, rfl, R3, kp⟩ := h2
            repeat (any_goals (first | assumption | wp_step))
            exact go _ _ _ R3 kp
          | _ => exact h2.elim
    | _ => exact h1.elim
end
/-- set(xs), ints -/
def rSetI (K : PySem.W.Frag) (w : World) : List V → Hp → VK → Prop := fun vs H Q => ∃ (l : Addr) (ns : List Int), vs = [.ref l] ∧ SqL K H l (ns.map V.int) ∧ ns.length ≤ 4000 ∧ ∀ p c, H p = none → Q (.ref p) (upd H p (SetO w p (fun j => decide (j ∈ ns)) c))
theorem cr_setI {X : Cx} (hc : X.calm = true) : CallR X (.type "set") (rSetI X.K X.w) := by
  intro pins s σ H vs us Q I r h
  obtain ⟨l, ns, rfl, hs, few, q⟩ := h
  obtain ⟨its, rv, hl, hz⟩ := I.list hs
  rw [Vals.ref1 r]
  refine set_made ns (I.ok.hd hc) hl.isList (by simpa using ints_of_vals rv) (by unfold scanBound; omega) fun g k c R kp => ?_
  exact ⟨.ref _, upd H s.heap.objs.size (SetO X.w s.heap.objs.size (fun j => decide (j ∈ ns)) c), I.laid (t' := k) kp (Nat.le_refl _) (setO_new R), rfl, q _ c (I.hok.fresh (Nat.le_refl _))⟩
/-- sorted(a set of ints) -/
def rSrtSet (w : World) : List V → Hp → VK → Prop := fun vs H Q => ∃ (a : Addr) (S : Int → Bool) (n : Nat), vs = [V.ref a] ∧ H a = some (SetO w a S n) ∧
  ∀ (ns : List Int) (p : Addr), ns.Pairwise (· < ·) → (∀ k : Int, k ∈ ns ↔ S k = true) → ns.length = n → H p = none → Q (.ref p) (upd H p (.lst (ns.map V.int)))
theorem rising {ns : List Int} (h : ns.Pairwise (· ≤ ·)) (nd : ns.Nodup) : ns.Pairwise (· < ·) := by
  rw [List.nodup_iff_pairwise_ne] at nd
  exact (h.and nd).imp fun {a b} z => by have := z.1; have := z.2; omega
theorem cr_srtSet {X : Cx} (hc : X.calm = true) : CallR X (.builtin "sorted") (rSrtSet X.w) := by
  intro pins s σ H vs us Q I r h
  obtain ⟨a, S, n, rfl, ha, q⟩ := h
  obtain ⟨o, es, ep, t, ho, hex, hd, g, nd, hm, hb, hf, hn, hr, hl⟩ := setO_get I ha
  rw [Vals.ref1 r]
  have nlt : n < 4096 := by rw [← hn]; exact hb
  refine Calls.call_function_entry kind_sorted plain_sorted entry_sorted (args_sorted1 _) ?_
  unfold Builtin.«sorted»
  refine wpAny_bind (m := checkCount "sorted" 1 1 _) (wpAny_pure ?_)
  refine wpAny_bind (collect_set (A := X.A.in1) (I.ok.hd hc) ⟨o, ho, hex.1, hd⟩ hf hb hr hl fun s1 us k1 z1 g1 o1 pm => ?_)
  have ul : us.length = n := by rw [pm.length_eq, List.length_map, Array.length_toList]; exact hn
  have ui : ∀ v ∈ us, ∃ i t, v = Value.int i t := fun v hv => by
    obtain ⟨e, he, rfl⟩ := List.mem_map.mp (pm.mem_iff.mp hv)
    obtain ⟨k, tk, h1, _⟩ := g e he
    exact ⟨k, tk, h1⟩
  have hI := SrtO.ints_iv ui
  have pk : (us.map SrtO.iv).Perm (es.toList.map keyOf) := by
    have z := pm.map SrtO.iv
    rw [List.map_map] at z
    refine z.trans (List.Perm.of_eq (List.map_congr_left fun e he => ?_))
    obtain ⟨k, tk, h1, _⟩ := g e he
    show SrtO.iv e.2 = keyOf e
    unfold keyOf
    rw [h1]
    rfl
  refine wpAny_bind (wpAny_newList ?_ (by rw [ul, sizeLine_eq]; omega))
  have top : (s1.heap.push (seqObj "list" us.toArray 0)).get? s1.heap.objs.size = some (seqObj "list" us.toArray 0) := Heap.get?_push_size _ rfl
  refine wpAny_bind (wpAny_holding (wpAny_call_entry slot_list_sort ⟨_, top, rfl⟩ entry_list_sort (SrtO.list_sort_ord SrtO.swo_int top (by rw [ul, sizeLine_eq]; omega) (fun l2 => SrtO.ints_sortable hI l2) fun out h1 h2 => ⟨_, rfl, ?_⟩) (args_list_sort _)))
  obtain ⟨k2, k3, k4⟩ := SrtO.ints_out hI h1 h2
  obtain ⟨c, hcc⟩ := sortedHeap_at (vs := us) (out := out.toArray) top
  have pn := k3.trans pk
  have nn : H s1.heap.objs.size = none := I.hok.fresh z1
  refine wpAny_pure ⟨_, rfl, .ref s1.heap.objs.size, upd H s1.heap.objs.size (.lst ((out.map SrtO.iv).map V.int)), ?_, rfl, q _ _ (rising k4 (pn.nodup_iff.mpr nd)) (fun k => by rw [pn.mem_iff, hm k]) (by rw [pn.length_eq, List.length_map, Array.length_toList]; exact hn) nn⟩
  have kp : ∀ b u, s.heap.get? b = some u → (sortedHeap (s1.heap.push (seqObj "list" us.toArray 0)) s1.heap.objs.size us out.toArray).get? b = some u := fun b u e => by
    have e1 := k1 b u e
    have lb := Heap.lt_size e1
    rw [sortedHeap_old (Nat.ne_of_lt lb) (by rw [size_push']; exact Nat.lt_succ_of_lt lb)]
    exact Heap.get?_push_of_some _ e1
  have J := I.call' (s' := { s1 with heap := sortedHeap (s1.heap.push (seqObj "list" us.toArray 0)) s1.heap.objs.size us out.toArray }) (ch := []) (H' := upd H s1.heap.objs.size (.lst ((out.map SrtO.iv).map V.int))) o1 (Un.laid kp z1 nn) (I.hok.laid kp z1 ⟨by
    rw [List.length_map, pn.length_eq, List.length_map, Array.length_toList, hn, sizeLine_eq]
    omega, out, c, vals_of_ints k2, hcc⟩) (by show AllBare s1.gens; rw [g1]; exact I.bare) (fun _ z => nomatch z)
  exact J
end Tw

/-! sorted(d.items()), ints to ints, of any size. -/
namespace Tw
open PySem PySem.Spec PyProof.Rows L2 L2.DX
def dInts (zs : List (Int × Int)) : List (Key × V) := zs.map fun z => (Sum.inl z.1, V.int z.2)
/-- d.items() -/
def rItemsK : V → List V → Hp → VK → Prop := fun x xs H Q => ∃ (a : Addr) (kvs : List (Key × V)), x = .ref a ∧ xs = [] ∧ H a = some (.dK kvs) ∧ ∀ p, H p = none → Q (.ref p) (upd H p (itemsO p a))
theorem mt_itemsK {X : Cx} : MtR X "dict.items" rItemsK := by
  intro pins s σ H x xs v us Q I rx rxs h
  obtain ⟨a, kvs, rfl, rfl, ha, q⟩ := h
  cases rx
  cases rxs
  obtain ⟨z, hd, ws, kv, o, es, ep, ho, hx, hdat, _⟩ := I.hok a _ ha
  refine DT.callItems (es := es) (ep := ep) hd ⟨o, ho, hx, hdat⟩ ?_
  exact ⟨.ref s.heap.objs.size, _, I.laid (t' := s.toks) (fun b u e => Heap.get?_push_of_some _ e) (Nat.le_refl _) (itemsO_ok (Heap.get?_push_size _ rfl)), rfl, q _ (I.hok.fresh (Nat.le_refl _))⟩
theorem ent_ix {P : Program} {w : World} : ∀ {es : List DictEntry} {vs : List (Key × Value)} {zs : List (Int × Int)}, Pairs (mixKind P w) es vs → KV (dInts zs) vs → ∀ (j : Nat) (e : DictEntry), es[j]? = some e → ∃ z t u, zs[j]? = some z ∧ e.key = .int z.1 t ∧ e.val = .int z.2 u
  | [], _, _, _, _, j, e, h => by simp at h
  | e0 :: es, _, zs, .cons h1 h2 h3, kv, j, e, h => by
    cases zs with
    | nil => cases kv
    | cons z zs =>
      cases kv with
      | cons a b =>
        cases j with
        | zero =>
          obtain rfl : e0 = e := by simpa using h
          obtain ⟨a1, u, a2⟩ := a
          have h1' : keyIs (Sum.inl z.1) e0.key = true := by rw [show (Sum.inl z.1 : Key) = _ from a1]; exact h1
          rcases keyIs_shape h1' with ⟨i, t, e1, e2⟩ | ⟨i, t, e1, e2⟩
          · cases e1
            exact ⟨z, t, u, rfl, e2, h2.trans a2⟩
          · cases e1
        | succ j => exact ent_ix h3 b j e (by simpa using h)
def rSrtIt : List V → Hp → VK → Prop := fun vs H Q => ∃ (p a : Addr) (zs : List (Int × Int)), vs = [.ref p] ∧ H p = some (itemsO p a) ∧ H a = some (.dK (dInts zs)) ∧
  ∀ (H' : Hp) (l : Addr) (ps : List (Addr × (Int × Int))), Same H H' → H l = none → (ps.map (·.2)).Perm zs → (ps.map (·.2)).Pairwise (fun y z => SrtO.lexB z y = false) → H' l = some (.lst (ps.map fun z => V.ref z.1)) → (∀ z ∈ ps, H' z.1 = some (.tup [.int z.2.1, .int z.2.2])) → Q (.ref l) H'
open Classical in
theorem cr_srtItems {X : Cx} (hc : X.calm = true) : CallR X (.builtin "sorted") rSrtIt := by
  intro pins s σ H xs us Q I r h
  obtain ⟨p, a, zs, rfl, hp, ha, q⟩ := h
  rw [Vals.ref1 r]
  have view : s.heap.IsItemsView p a := (I.hok p _ hp).1
  obtain ⟨z, hd, ws, kv, o, es, ep, ho, hx, hdat, _, prs, _⟩ := I.hok a _ ha
  have lz : (dInts zs).length = zs.length := List.length_map ..
  have l1 : zs.length = ws.length := lz.symm.trans (Paired.length kv)
  have l2 : es.size = ws.length := (Array.length_toList (xs := es)).symm.trans prs.length
  rw [lz] at z
  refine DT.sortedI (es := es) (ep := ep) (I.ok.hd hc) view ⟨o, ho, hx, hdat⟩ (by omega) fun g tk as keep more la made => ?_
  have lak : as.length = zs.length := by omega
  have nd : as.Nodup := made.rise.imp fun h => Nat.ne_of_lt h
  -- the pair at each of as
  have pr : ∀ (j : Nat) (b : Addr), as[j]? = some b → ∃ z t u, zs[j]? = some z ∧ g.get? b = some { cls := .type "tuple", data := .seq #[.int z.1 t, .int z.2 u] } := by
    intro j b hj
    obtain ⟨e, he, hg⟩ := made.pairs j b hj
    obtain ⟨z, t, u, hz, e1, e2⟩ := ent_ix prs kv j e (by rw [Array.getElem?_toList]; exact he)
    exact ⟨z, t, u, hz, by rw [hg, e1, e2]⟩
  have one : ∀ b, b ∈ as → ∃ z : Int × Int, Srt.IsPair g (.ref b) z.1 z.2 := by
    intro b hb
    obtain ⟨j, hj⟩ := List.mem_iff_getElem?.mp hb
    obtain ⟨z, t, u, _, hg⟩ := pr j b hj
    exact ⟨z, b, _, t, u, 0, rfl, hg, rfl, rfl⟩
  obtain ⟨k, hk⟩ : ∃ k : Value → Int × Int, ∀ b, b ∈ as → Srt.IsPair g (.ref b) (k (.ref b)).1 (k (.ref b)).2 := by
    refine ⟨fun v => if hv : ∃ z : Int × Int, Srt.IsPair g v z.1 z.2 then hv.choose else (0, 0), fun b hb => ?_⟩
    have hv := one b hb
    show Srt.IsPair g (.ref b) (dite _ _ _ : Int × Int).1 (dite _ _ _ : Int × Int).2
    rw [dif_pos hv]
    exact hv.choose_spec
  have kz : ∀ (j : Nat) (b : Addr), as[j]? = some b → zs[j]? = some (k (.ref b)) := by
    intro j b hj
    obtain ⟨z, t, u, hz, hg⟩ := pr j b hj
    obtain ⟨b', o', t', u', n', e1, e2, e3, e4⟩ := hk b (List.mem_of_getElem? hj)
    cases e1
    rw [hg] at e2
    cases e2
    simp only at e4
    have e5 : k (.ref b) = z := by
      injection e4 with e4 _
      have e6 := congrArg Array.toList e4
      simp at e6
      exact Prod.ext e6.1.1.symm e6.2.1.symm
    rw [e5]
    exact hz
  have mz : as.map (fun b => k (.ref b)) = zs := by
    refine List.ext_getElem? fun j => ?_
    rw [List.getElem?_map]
    cases hj : as[j]? with
    | none =>
      rw [List.getElem?_eq_none_iff] at hj
      rw [List.getElem?_eq_none_iff.mpr (by omega)]
      rfl
    | some b => rw [kz j b hj]; rfl
  -- the sort
  have top : (g.push { cls := .type "list", data := .seq (as.map Value.ref).toArray }).get? g.objs.size = some (seqObj "list" (as.map Value.ref).toArray 0) := Heap.get?_push_size _ rfl
  have up : ∀ b o, g.get? b = some o → (g.push { cls := .type "list", data := .seq (as.map Value.ref).toArray }).get? b = some o := fun b o e => Heap.get?_push_of_some _ e
  have off : ∀ b o, g.get? b = some o → b ≠ g.objs.size := fun b o e => Nat.ne_of_lt (Heap.lt_size e)
  generalize hg2 : g.push { cls := .type "list", data := .seq (as.map Value.ref).toArray } = g2 at top up ⊢
  have isr : ∀ v ∈ as.map Value.ref, ∃ b, b ∈ as ∧ v = .ref b := fun v hv => by
    obtain ⟨b, hb, rfl⟩ := List.mem_map.mp hv
    exact ⟨b, hb, rfl⟩
  refine wpAny_call_entry slot_list_sort ⟨_, top, rfl⟩ entry_list_sort
    (SrtO.list_sort_ord (s := { s with heap := g2, toks := tk }) (SrtO.swo_lex k) top (by rw [List.length_map, lak]; exact z) (fun h2 => SrtO.pairs_sortableO (s := { s with heap := g2, toks := tk }) (by omega) (fun v hv => ?_) fun o e c => ?_) fun out o1 o2 => ⟨.none, rfl, ?_⟩) (args_list_sort _)
  · obtain ⟨b, hb, rfl⟩ := isr v hv
    exact (hk b hb).keeps fun c o e _ => up c o e
  · rw [show g2.get? g.objs.size = _ from top] at e
    cases e
    exact absurd (Value.type.inj c) (by decide)
  · show EP X pins σ Q (.ref g.objs.size) { s with heap := sortedHeap g2 g.objs.size (as.map Value.ref) out.toArray, toks := tk }
    have h3 : ∀ u ∈ out, ∃ b, u = Value.ref b := fun u hu => by
      obtain ⟨b, _, e⟩ := isr u (o2.perm.mem_iff.mp hu)
      exact ⟨b, e⟩
    obtain ⟨bs, rfl⟩ : ∃ bs : List Addr, out = bs.map Value.ref := by
      clear o1 o2
      induction out with
      | nil => exact ⟨[], rfl⟩
      | cons u out ih =>
        obtain ⟨b, rfl⟩ := h3 u List.mem_cons_self
        obtain ⟨bs, rfl⟩ := ih fun v hv => h3 v (List.mem_cons_of_mem _ hv)
        exact ⟨b :: bs, rfl⟩
    have inj : ∀ x y : Addr, Value.ref x = Value.ref y → x = y := fun x y e => by cases e; rfl
    have pb : bs.Perm as := by
      have e := o2.perm.map (fun v => match v with | Value.ref b => b | _ => 0)
      rw [List.map_map, List.map_map] at e
      have id1 : ((fun v => match v with | Value.ref b => b | _ => 0) ∘ Value.ref : Addr → Addr) = id := rfl
      rw [id1, List.map_id, List.map_id] at e
      exact e
    have kF : ∀ b o, b ≠ g.objs.size → g2.get? b = some o → (sortedHeap g2 g.objs.size (as.map Value.ref) (bs.map Value.ref).toArray).get? b = some o := fun b o hb e => (sortedHeap_old hb (Heap.lt_size e)).trans e
    have kS : ∀ b o, s.heap.get? b = some o → (sortedHeap g2 g.objs.size (as.map Value.ref) (bs.map Value.ref).toArray).get? b = some o := fun b o e => kF b o (off _ _ (keep b o e)) (up b o (keep b o e))
    obtain ⟨eF, heF⟩ := sortedHeap_at (vs := as.map Value.ref) (out := (bs.map Value.ref).toArray) top
    have I1 : Inv X pins σ H { s with heap := sortedHeap g2 g.objs.size (as.map Value.ref) (bs.map Value.ref).toArray, toks := tk } := I.kept (t' := tk) kS
    have hn0 : H g.objs.size = none := I.hok.fresh (Nat.le_of_lt more)
    have bl : bs.length = zs.length := pb.length_eq.trans lak
    have I2 : Inv X pins σ (upd H g.objs.size (.lst (bs.map V.ref))) { s with heap := sortedHeap g2 g.objs.size (as.map Value.ref) (bs.map Value.ref).toArray, toks := tk } :=
      I1.take (t' := tk) (fun b ob _ e => e) (I.fpOk (Nat.le_of_lt more) hn0) ⟨by rw [List.length_map, bl]; exact z, bs.map Value.ref, eF, LiI.vals_refs bs, heF⟩
    obtain ⟨H2, I3, gr, qt⟩ := takeT (P := fun b vs => vs = [.int (k (.ref b)).1, .int (k (.ref b)).2]) I as _ I2 nd fun b hb => by
      have hbl : s.heap.objs.size ≤ b := Nat.le_of_lt (made.above b hb)
      obtain ⟨b', o', t', u', n', e1, e2, e3, e4⟩ := hk b hb
      cases e1
      refine ⟨hbl, ?_, _, rfl, fun H3 => ⟨by show 2 ≤ sizeLine; decide, [.int (k (.ref b)).1 t', .int (k (.ref b)).2 u'], .cons ⟨t', rfl⟩ (.cons ⟨u', rfl⟩ .nil), ⟨o', kF _ _ (off _ _ e2) (up _ _ e2), e3, n', e4⟩⟩⟩
      rw [upd_ne (off _ _ e2)]
      exact I.hok.fresh hbl
    refine ⟨.ref g.objs.size, H2, I3, rfl, q H2 g.objs.size (bs.map fun b => (b, k (.ref b))) (fun b o e => gr b o (by rw [upd_ne (ne_of_none e hn0)]; exact e)) hn0 ?_ ?_ ?_ ?_⟩
    · rw [List.map_map]
      have e := pb.map (fun b => k (.ref b))
      rw [mz] at e
      exact e
    · rw [List.map_map, List.pairwise_map]
      have e := o1
      unfold SrtO.Srtd at e
      rw [List.pairwise_map] at e
      exact e
    · rw [List.map_map]
      exact gr _ _ upd_same
    · intro y hy
      obtain ⟨b, hb, rfl⟩ := List.mem_map.mp hy
      obtain ⟨vs, rfl, hH⟩ := qt b (pb.mem_iff.mp hb)
      exact hH
end Tw

/-! Rounds: least periods, how many numbers have each. -/
namespace Tw
open PySem PySem.Spec PyProof.Rows L2
theorem itr_add (f : Int → Int) (a b : Nat) (x : Int) : itr f (a + b) x = itr f a (itr f b x) := by
  induction a with
  | zero => rw [Nat.zero_add]; rfl
  | succ a ih => rw [Nat.add_right_comm]; exact congrArg f ih
theorem itr_one (f : Int → Int) (n : Nat) (x : Int) : itr f n (f x) = itr f (n + 1) x := (itr_add f n 1 x).symm
theorem itr_fix {f : Int → Int} {L : Nat} {x : Int} (h : itr f L x = x) : ∀ n, itr f (L * n) x = x
  | 0 => rfl
  | n + 1 => by rw [Nat.mul_succ, itr_add, h, itr_fix h n]
def Per (f : Int → Int) (L : Nat) (x : Int) : Prop := 0 < L ∧ itr f L x = x ∧ ∀ j, j < L → 0 < j → itr f j x ≠ x
theorem per_uniq {f : Int → Int} {L M : Nat} {x : Int} (h : Per f L x) (g : Per f M x) : L = M := by
  rcases Nat.lt_trichotomy L M with c | c | c
  · exact absurd h.2.1 (g.2.2 L c h.1)
  · exact c
  · exact absurd g.2.1 (h.2.2 M c g.1)
theorem per_ex {f : Int → Int} {x : Int} : ∀ n : Nat, 0 < n → itr f n x = x → ∃ L, L ≤ n ∧ Per f L x := by
  intro n
  induction n using Nat.strongRecOn with
  | ind n ih =>
    intro h0 h
    by_cases c : ∃ j, j < n ∧ 0 < j ∧ itr f j x = x
    · obtain ⟨j, j1, j2, j3⟩ := c
      obtain ⟨L, l1, l2⟩ := ih j j1 j2 j3
      exact ⟨L, by omega, l2⟩
    · exact ⟨n, Nat.le_refl n, h0, h, fun j j1 j2 j3 => c ⟨j, j1, j2, j3⟩⟩
open Classical in
noncomputable def pcnt (f : Int → Int) (ws : List Int) (L : Nat) : Nat := ws.countP fun x => decide (Per f L x)
theorem pcnt_app (f : Int → Int) (ws vs : List Int) (L : Nat) : pcnt f (ws ++ vs) L = pcnt f ws L + pcnt f vs L := List.countP_append ..
theorem pcnt_zero {f : Int → Int} {ws : List Int} {L : Nat} (h : ∀ x ∈ ws, ¬ Per f L x) : pcnt f ws L = 0 := by
  unfold pcnt
  rw [List.countP_eq_zero]
  intro x hx
  simp [h x hx]
theorem pcnt_same {f : Int → Int} {ws vs : List Int} {L : Nat} (n1 : ws.Nodup) (n2 : vs.Nodup) (h : ∀ x, Per f L x → (x ∈ ws ↔ x ∈ vs)) : pcnt f ws L = pcnt f vs L := by
  unfold pcnt
  rw [List.countP_eq_length_filter, List.countP_eq_length_filter]
  refine List.Perm.length_eq ((List.perm_ext_iff_of_nodup (n1.filter _) (n2.filter _)).mpr fun x => ?_)
  rw [List.mem_filter, List.mem_filter]
  simp only [decide_eq_true_eq]
  exact ⟨fun z => ⟨(h x z.2).mp z.1, z.2⟩, fun z => ⟨(h x z.2).mpr z.1, z.2⟩⟩
theorem pcnt_pos {f : Int → Int} {ws : List Int} {L : Nat} : 0 < pcnt f ws L ↔ ∃ x, x ∈ ws ∧ Per f L x := by
  unfold pcnt
  rw [List.countP_pos_iff]
  simp
/-! ### a walk's new numbers -/
theorem orb_cons (f : Int → Int) (n : Nat) (x : Int) : orb f (n + 1) x = x :: orb f n (f x) := by
  unfold orb
  rw [List.range_succ_eq_map, List.map_cons, List.map_map]
  refine congrArg (x :: ·) (List.map_congr_left fun i _ => ?_)
  exact (itr_one f i x).symm
theorem orb_mem {f : Int → Int} {n : Nat} {x y : Int} : y ∈ orb f n x ↔ ∃ i, i < n ∧ itr f i x = y := by
  unfold orb
  simp [List.mem_map, List.mem_range]
theorem wk_form (f : Int → Int) : ∀ (k : Nat) (ws : List Int) (x : Int), ∃ n, n ≤ k ∧ wk f k ws x = (ws ++ orb f n x, itr f n x)
  | 0, ws, x => ⟨0, Nat.le_refl 0, by show (ws, x) = (ws ++ [], x); rw [List.append_nil]⟩
  | k + 1, ws, x => by
    by_cases h : x ∈ ws
    · refine ⟨0, Nat.zero_le _, ?_⟩
      rw [wk_in h]
      show (ws, x) = (ws ++ [], x)
      rw [List.append_nil]
    · obtain ⟨n, hn, e⟩ := wk_form f k (ws ++ [x]) (f x)
      refine ⟨n + 1, by omega, ?_⟩
      rw [wk_out h, e, orb_cons, List.append_assoc, itr_one]
      rfl
/-- closed under steps -/
def Fcl (f : Int → Int) (ws : List Int) : Prop := ∀ a ∈ ws, f a ∈ ws
theorem fcl_itr {f : Int → Int} {ws : List Int} (h : Fcl f ws) {a : Int} (ha : a ∈ ws) : ∀ n, itr f n a ∈ ws
  | 0 => ha
  | n + 1 => h _ (fcl_itr h ha n)
theorem fcl_walk {f : Int → Int} {ws : List Int} {x : Int} {n : Nat} (h : Fcl f ws) (hy : itr f n x ∈ ws ++ orb f n x) : Fcl f (ws ++ orb f n x) := by
  intro a ha
  rcases List.mem_append.mp ha with ha | ha
  · exact List.mem_append_left _ (h a ha)
  · obtain ⟨i, hi, rfl⟩ := orb_mem.mp ha
    by_cases c : i + 1 < n
    · exact List.mem_append_right _ (orb_mem.mpr ⟨i + 1, c, rfl⟩)
    · obtain rfl : n = i + 1 := by omega
      exact hy
theorem orb_inj {f : Int → Int} {ws : List Int} {n : Nat} {x : Int} (nd : (ws ++ orb f n x).Nodup) {i j : Nat} (hi : i < n) (hj : j < n) (e : itr f i x = itr f j x) : i = j := by
  have nd2 := (List.nodup_append.mp nd).2.1
  unfold orb at nd2
  have z : ((List.range n).map fun i => itr f i x)[i]? = ((List.range n).map fun i => itr f i x)[j]? := by
    rw [List.getElem?_map, List.getElem?_map, List.getElem?_range hi, List.getElem?_range hj]
    exact congrArg some e
  exact (List.getElem?_inj (by rw [List.length_map, List.length_range]; exact hi) nd2).mp z
/-- the walk ends in old numbers: none of the new ones comes again -/
theorem walk_old {f : Int → Int} {ws : List Int} {n : Nat} {x : Int} (nd : (ws ++ orb f n x).Nodup) (fc : Fcl f ws) (h : itr f n x ∈ ws) {i : Nat} (hi : i < n) (L : Nat) : ¬ Per f L (itr f i x) := by
  rintro ⟨l0, l1, _⟩
  have e := itr_fix l1 n
  have le : n ≤ L * n := Nat.le_mul_of_pos_left n l0
  rw [← itr_add, show L * n + i = (L * n - (n - i)) + n by omega, itr_add] at e
  have hm : itr f i x ∈ ws := by rw [← e]; exact fcl_itr fc h _
  exact (List.nodup_append.mp nd).2.2 _ hm _ (orb_mem.mpr ⟨i, hi, rfl⟩) rfl
section
variable {f : Int → Int} {ws : List Int} {n j : Nat} {x : Int}
theorem cyc_step (hj : j < n) (h : itr f n x = itr f j x) {i : Nat} (hi : j ≤ i) : itr f (i + (n - j)) x = itr f i x := by
  rw [show i + (n - j) = (i - j) + n by omega, itr_add, h, ← itr_add, show i - j + j = i by omega]
theorem cyc_in (hj : j < n) (h : itr f n x = itr f j x) (i : Nat) : j ≤ i → ∃ k, j ≤ k ∧ k < n ∧ itr f i x = itr f k x := by
  induction i using Nat.strongRecOn with
  | ind i ih =>
    intro hi
    by_cases c : i < n
    · exact ⟨i, hi, c, rfl⟩
    · obtain ⟨k, k1, k2, k3⟩ := ih (i - (n - j)) (by omega) (by omega)
      refine ⟨k, k1, k2, ?_⟩
      rw [← k3, ← cyc_step hj h (i := i - (n - j)) (by omega), show i - (n - j) + (n - j) = i by omega]
theorem walk_tail (nd : (ws ++ orb f n x).Nodup) (hj : j < n) (h : itr f n x = itr f j x) {i : Nat} (hi : i < j) (L : Nat) : ¬ Per f L (itr f i x) := by
  rintro ⟨l0, l1, _⟩
  have e := itr_fix l1 n
  have le : n ≤ L * n := Nat.le_mul_of_pos_left n l0
  rw [← itr_add] at e
  obtain ⟨k, k1, k2, k3⟩ := cyc_in hj h (L * n + i) (by omega)
  have := orb_inj nd k2 (by omega) (k3.symm.trans e)
  omega
theorem walk_cyc (nd : (ws ++ orb f n x).Nodup) (hj : j < n) (h : itr f n x = itr f j x) {i : Nat} (hi : j ≤ i) (hn : i < n) : Per f (n - j) (itr f i x) := by
  refine ⟨by omega, ?_, fun d d1 d0 e => ?_⟩
  · rw [← itr_add, Nat.add_comm]
    exact cyc_step hj h hi
  · rw [← itr_add] at e
    by_cases c : d + i < n
    · have := orb_inj nd c hn e
      omega
    · have e2 : itr f (d + i) x = itr f (d + i - (n - j)) x := by
        have := cyc_step hj h (i := d + i - (n - j)) (by omega)
        rw [show d + i - (n - j) + (n - j) = d + i by omega] at this
        exact this
      have := orb_inj nd (i := d + i - (n - j)) (j := i) (by omega) hn (e2.symm.trans e)
      omega
end
theorem cnt_from (j : Nat) : ∀ n, (List.range n).countP (fun i => decide (j ≤ i)) = n - j
  | 0 => by simp
  | n + 1 => by
    rw [List.range_succ, List.countP_append, cnt_from j n]
    by_cases c : j ≤ n
    · rw [List.countP_cons_of_pos (by simp [c])]
      show n - j + (0 + 1) = n + 1 - j
      omega
    · rw [List.countP_cons_of_neg (by simp [c])]
      show n - j + 0 = n + 1 - j
      omega
theorem pcnt_old {f : Int → Int} {ws : List Int} {n : Nat} {x : Int} (nd : (ws ++ orb f n x).Nodup) (fc : Fcl f ws) (h : itr f n x ∈ ws) (L : Nat) : pcnt f (ws ++ orb f n x) L = pcnt f ws L := by
  rw [pcnt_app, pcnt_zero (ws := orb f n x), Nat.add_zero]
  intro y hy
  obtain ⟨i, hi, rfl⟩ := orb_mem.mp hy
  exact walk_old nd fc h hi L
theorem pcnt_new {f : Int → Int} {ws : List Int} {n j : Nat} {x : Int} (nd : (ws ++ orb f n x).Nodup) (hj : j < n) (h : itr f n x = itr f j x) (L : Nat) : pcnt f (ws ++ orb f n x) L = pcnt f ws L + if L = n - j then n - j else 0 := by
  rw [pcnt_app]
  refine congrArg (pcnt f ws L + ·) ?_
  by_cases c : L = n - j
  · rw [if_pos c, ← cnt_from j n]
    unfold pcnt orb
    rw [List.countP_map]
    refine List.countP_congr fun i hi => ?_
    rw [List.mem_range] at hi
    simp only [Function.comp, decide_eq_true_eq]
    constructor
    · intro z
      refine Nat.le_of_not_lt fun z2 => ?_
      exact walk_tail nd hj h z2 L z
    · intro z
      rw [c]
      exact walk_cyc nd hj h z hi
  · rw [if_neg c]
    refine pcnt_zero fun y hy z => ?_
    obtain ⟨i, hi, rfl⟩ := orb_mem.mp hy
    by_cases d : j ≤ i
    · exact c (per_uniq z (walk_cyc nd hj h d hi))
    · exact walk_tail nd hj h (by omega) L z
/-! ### all numbers of a bound -/
def alls (m : Int) : List Int := (List.range m.toNat).map fun (i : Nat) => (i : Int)
theorem alls_mem {m x : Int} : x ∈ alls m ↔ 0 ≤ x ∧ x < m := by
  unfold alls
  rw [List.mem_map]
  constructor
  · rintro ⟨i, hi, rfl⟩
    rw [List.mem_range] at hi
    omega
  · rintro ⟨h0, h1⟩
    exact ⟨x.toNat, by rw [List.mem_range]; omega, by show ((x.toNat : Nat) : Int) = x; omega⟩
theorem alls_nodup (m : Int) : (alls m).Nodup := by
  unfold alls
  rw [List.nodup_iff_pairwise_ne, List.pairwise_map]
  have := List.nodup_range (n := m.toNat)
  rw [List.nodup_iff_pairwise_ne] at this
  exact this.imp fun {a b} h => by omega
/-- how many numbers have the least period L -/
noncomputable def Nper (f : Int → Int) (m : Int) (L : Nat) : Nat := pcnt f (alls m) L
noncomputable def Crnd (f : Int → Int) (m : Int) (L : Nat) : Int := ((Nper f m L / L : Nat) : Int)
structure Rds (f : Int → Int) (m : Int) (zs : List (Int × Int)) : Prop where
  up : zs.Pairwise fun y z => y.1 < z.1
  mem : ∀ L c : Int, (L, c) ∈ zs ↔ ∃ n : Nat, L = n ∧ 0 < Nper f m n ∧ c = Crnd f m n
theorem up_uniq : ∀ {l k : List (Int × Int)}, l.Pairwise (fun y z => y.1 < z.1) → k.Pairwise (fun y z => y.1 < z.1) → (∀ z, z ∈ l ↔ z ∈ k) → l = k
  | [], [], _, _, _ => rfl
  | [], b :: k, _, _, h => absurd ((h b).mpr List.mem_cons_self) (by simp)
  | a :: l, [], _, _, h => absurd ((h a).mp List.mem_cons_self) (by simp)
  | a :: l, b :: k, h1, h2, h => by
    rw [List.pairwise_cons] at h1 h2
    have e : a = b := by
      rcases List.mem_cons.mp ((h a).mp List.mem_cons_self) with e | e
      · exact e
      · rcases List.mem_cons.mp ((h b).mpr List.mem_cons_self) with e2 | e2
        · exact e2.symm
        · have := h2.1 a e
          have := h1.1 b e2
          omega
    subst e
    refine congrArg (a :: ·) (up_uniq h1.2 h2.2 fun z => ⟨fun hz => ?_, fun hz => ?_⟩)
    · rcases List.mem_cons.mp ((h z).mp (List.mem_cons_of_mem _ hz)) with e | e
      · have := h1.1 z hz
        rw [e] at this
        omega
      · exact e
    · rcases List.mem_cons.mp ((h z).mpr (List.mem_cons_of_mem _ hz)) with e | e
      · have := h2.1 z hz
        rw [e] at this
        omega
      · exact e
theorem Rds.uniq {f : Int → Int} {m : Int} {zs ys : List (Int × Int)} (h : Rds f m zs) (g : Rds f m ys) : zs = ys :=
  up_uniq h.up g.up fun z => (h.mem z.1 z.2).trans (g.mem z.1 z.2).symm
/-- what stands behind all walks -/
theorem nper_of {f : Int → Int} {m : Int} {ws : List Int} (nd : ws.Nodup) (rg : Rng m ws) (h : ∀ x, 0 ≤ x → x < m → (∃ L, Per f L x) → x ∈ ws) (L : Nat) : pcnt f ws L = Nper f m L :=
  pcnt_same nd (alls_nodup m) fun x hx => ⟨fun z => alls_mem.mpr (rg x z), fun z => by
    obtain ⟨a, b⟩ := alls_mem.mp z
    exact h x a b ⟨L, hx⟩⟩
/-! ### numbers that come again -/
theorem pigeon {m : Int} (h : Nat → Int) (hr : ∀ i, 0 ≤ h i ∧ h i < m) : ∃ i j, i < j ∧ h i = h j := by
  refine Classical.byContradiction fun c => ?_
  have nd : ((List.range (m.toNat + 1)).map h).Nodup := by
    rw [List.nodup_iff_pairwise_ne, List.pairwise_map]
    have := List.pairwise_lt_range (n := m.toNat + 1)
    exact this.imp fun {a b} l e => c ⟨a, b, l, e⟩
  have := int_len (m := m) nd fun x hx => by
    obtain ⟨i, _, rfl⟩ := List.mem_map.mp hx
    exact hr i
  rw [List.length_map, List.length_range] at this
  omega
/-- where each is a next one of one of them, each comes again -/
theorem onto_per {f : Int → Int} {m : Int} {l : List Int} (rg : Rng m l) (on : ∀ y ∈ l, ∃ z ∈ l, f z = y) {x : Int} (hx : x ∈ l) : ∃ L, Per f L x := by
  obtain ⟨g, hg⟩ : ∃ g : Int → Int, ∀ y ∈ l, g y ∈ l ∧ f (g y) = y := by
    refine ⟨fun y => if h : ∃ z, z ∈ l ∧ f z = y then h.choose else 0, fun y hy => ?_⟩
    have h : ∃ z, z ∈ l ∧ f z = y := by
      obtain ⟨z, h1, h2⟩ := on y hy
      exact ⟨z, h1, h2⟩
    show dite _ _ _ ∈ l ∧ f (dite _ _ _) = y
    rw [dif_pos h]
    exact h.choose_spec
  have gm : ∀ i, itr g i x ∈ l := fun i => by
    induction i with
    | zero => exact hx
    | succ i ih => exact (hg _ ih).1
  have fg : ∀ i, itr f i (itr g i x) = x := fun i => by
    induction i with
    | zero => rfl
    | succ i ih =>
      rw [← itr_one]
      show itr f i (f (g (itr g i x))) = x
      rw [(hg _ (gm i)).2]
      exact ih
  obtain ⟨i, j, hij, e⟩ := pigeon (m := m) (fun i => itr g i x) fun i => rg _ (gm i)
  have e2 := fg j
  rw [← show itr g i x = itr g j x from e, show j = (j - i) + i by omega, itr_add, fg i] at e2
  obtain ⟨L, _, h⟩ := per_ex (j - i) (by omega) e2
  exact ⟨L, h⟩
theorem per_prev {f : Int → Int} {L : Nat} {x : Int} (h : Per f L x) : ∃ y, f y = x ∧ (∃ n, itr f n x = y) ∧ ∃ M, Per f M y := by
  obtain ⟨h0, h1, _⟩ := h
  obtain ⟨k, rfl⟩ : ∃ k, L = k + 1 := ⟨L - 1, by omega⟩
  refine ⟨itr f k x, h1, ⟨k, rfl⟩, ?_⟩
  have e : itr f (k + 1) (itr f k x) = itr f k x := by rw [← itr_add, Nat.add_comm, itr_add, h1]
  obtain ⟨M, _, hM⟩ := per_ex (k + 1) (by omega) e
  exact ⟨M, hM⟩
end Tw

/-! All rounds: the dict of lengths, the promises. -/
namespace Tw
open PySem PySem.Spec PyProof.Rows L2
def rdD (ks : List Nat) (c : Nat → Int) : List (Int × Int) := ks.map fun (L : Nat) => ((L : Int), c L)
theorem rdD_len (ks : List Nat) (c : Nat → Int) : (dInts (rdD ks c)).length = ks.length := by
  unfold dInts rdD
  rw [List.length_map, List.length_map]
theorem rdD_congr {ks : List Nat} {c d : Nat → Int} (h : ∀ L ∈ ks, c L = d L) : rdD ks c = rdD ks d := List.map_congr_left fun L hL => by rw [h L hL]
theorem rdD_in {c : Nat → Int} {L : Nat} : ∀ {ks : List Nat}, L ∈ ks → valV (dInts (rdD ks c)) (Sum.inl (L : Int)) = some (.int (c L))
  | k :: ks, h => by
    show valV ((Sum.inl (k : Int), V.int (c k)) :: dInts (rdD ks c)) _ = _
    by_cases e : k = L
    · subst e
      rw [valV_pos rfl]
    · rw [valV_neg (fun z => e (by have := Sum.inl.inj z; omega))]
      exact rdD_in ((List.mem_cons.mp h).resolve_left fun z => e z.symm)
theorem rdD_out {c : Nat → Int} {L : Nat} : ∀ {ks : List Nat}, L ∉ ks → valV (dInts (rdD ks c)) (Sum.inl (L : Int)) = none
  | [], _ => rfl
  | k :: ks, h => by
    show valV ((Sum.inl (k : Int), V.int (c k)) :: dInts (rdD ks c)) _ = _
    rw [valV_neg (fun z => h (by have := Sum.inl.inj z; rw [show L = k by omega]; exact List.mem_cons_self))]
    exact rdD_out fun z => h (List.mem_cons_of_mem _ z)
theorem rdD_put {c : Nat → Int} {L : Nat} {v : Int} {ks : List Nat} (h : L ∈ ks) : putK (dInts (rdD ks c)) (Sum.inl (L : Int)) (.int v) = dInts (rdD ks fun M => if M = L then v else c M) := by
  unfold putK
  rw [valV_any, rdD_in h, if_pos Option.isSome_some]
  unfold dInts rdD
  rw [List.map_map, List.map_map, List.map_map]
  refine List.map_congr_left fun M _ => ?_
  show (if (Sum.inl (M : Int) : Key) = Sum.inl (L : Int) then ((Sum.inl (M : Int) : Key), V.int v) else (Sum.inl (M : Int), V.int (c M))) = (Sum.inl (M : Int), V.int (if M = L then v else c M))
  by_cases e : M = L
  · rw [if_pos (by rw [e]), if_pos e]
  · rw [if_neg (fun z => e (by have := Sum.inl.inj z; omega)), if_neg e]
theorem rdD_add {c : Nat → Int} {L : Nat} {v : Int} {ks : List Nat} (h : L ∉ ks) : putK (dInts (rdD ks c)) (Sum.inl (L : Int)) (.int v) = dInts (rdD (ks ++ [L]) fun M => if M = L then v else c M) := by
  rw [putK_new _ (rdD_out h)]
  have e : rdD (ks ++ [L]) (fun M => if M = L then v else c M) = rdD ks c ++ [((L : Int), v)] := by
    unfold rdD
    rw [List.map_append]
    refine congr (congrArg _ (List.map_congr_left fun M hM => ?_)) ?_
    · have ne : M ≠ L := fun z => h (by rw [← z]; exact hM)
      show ((M : Int), if M = L then v else c M) = ((M : Int), c M)
      rw [if_neg ne]
    · show [((L : Int), if L = L then v else c L)] = _
      rw [if_pos rfl]
  rw [e]
  unfold dInts
  rw [List.map_append]
  rfl
/-- the pairs told -/
def TupP (H : Hp) (q : Addr) (ps : List (Addr × (Int × Int))) : Prop := H q = some (.tup (ps.map fun z => V.ref z.1)) ∧ ∀ z ∈ ps, H z.1 = some (.tup [.int z.2.1, .int z.2.2])
theorem TupP.same {H H' : Hp} {q : Addr} {ps : List (Addr × (Int × Int))} (h : TupP H q ps) (s : Same H H') : TupP H' q ps := ⟨s _ _ h.1, fun z hz => s _ _ (h.2 z hz)⟩
def pAllR (K : PySem.W.Frag) : V → Hp → VK → XK → Prop := fun a H Q _ => ∃ (r : Addr) (t p m : Int), a = .ref r ∧ SqT K H r [.int t, .int p, .int m] ∧ Rule t p m ∧ m ≤ 2000 ∧
  ∀ H' q ps, Same H H' → H q = none → TupP H' q ps → Rds (stp t p m) m (ps.map (·.2)) → Q (.ref q) H'
def dPairs (zs : List (Int × Int)) : PyData := .tuple (zs.map fun z => .tuple [.int z.1, .int z.2])
theorem lay_pairs : ∀ zs : List (Int × Int), PyData.canLayAll0 (zs.map fun z => .tuple [.int z.1, .int z.2]) = true ∧ PyData.depthAll (zs.map fun z => .tuple [.int z.1, .int z.2]) ≤ 1
  | [] => ⟨rfl, by decide⟩
  | z :: zs => by
    obtain ⟨h1, h2⟩ := lay_pairs zs
    constructor
    · show (PyData.canLay0 (.tuple [.int z.1, .int z.2]) && PyData.canLayAll0 (zs.map fun z => .tuple [.int z.1, .int z.2])) = true
      rw [h1]
      rfl
    · show max (PyData.depth (.tuple [.int z.1, .int z.2])) (PyData.depthAll (zs.map fun z => .tuple [.int z.1, .int z.2])) ≤ 1
      have : PyData.depth (.tuple [.int z.1, .int z.2]) = 1 := rfl
      omega
theorem shp_pairs (zs : List (Int × Int)) : SeqAt.shaped (dPairs zs) = true := by
  obtain ⟨h1, h2⟩ := lay_pairs zs
  show (PyData.canLayAll0 (zs.map fun z => .tuple [.int z.1, .int z.2]) && decide (PyData.depthAll (zs.map fun z => .tuple [.int z.1, .int z.2]) + 1 ≤ 64)) = true
  rw [h1, decide_eq_true (by omega)]
  rfl
theorem dp_pairs {K : PySem.W.Frag} {H : Hp} : ∀ ps : List (Addr × (Int × Int)), (∀ z ∈ ps, H z.1 = some (.tup [.int z.2.1, .int z.2.2])) → DpAll K H (ps.map fun z => V.ref z.1) ((ps.map (·.2)).map fun z => PyData.tuple [.int z.1, .int z.2])
  | [], _ => .nil
  | z :: ps, h => .cons (.tup (SqT.of (h z List.mem_cons_self)) (.cons (.int _) (.cons (.int _) .nil))) (dp_pairs ps fun y hy => h y (List.mem_cons_of_mem _ hy))
theorem TupP.dp {K : PySem.W.Frag} {H : Hp} {q : Addr} {ps : List (Addr × (Int × Int))} (h : TupP H q ps) : Dp K H (.ref q) (dPairs (ps.map (·.2))) := .tup (SqT.of h.1) (dp_pairs ps h.2)
/-! ### the program's counting, walk by walk -/
noncomputable def Cws (f : Int → Int) (ws : List Int) (L : Nat) : Int := ((pcnt f ws L / L : Nat) : Int)
structure Cnt (f : Int → Int) (ws : List Int) (ks : List Nat) : Prop where
  nd : ks.Nodup
  mem : ∀ L, L ∈ ks ↔ 0 < pcnt f ws L
theorem per_pos {f : Int → Int} {ws : List Int} {L : Nat} (h : 0 < pcnt f ws L) : 0 < L := by
  obtain ⟨x, _, hx⟩ := pcnt_pos.mp h
  exact hx.1
theorem cws_old {f : Int → Int} {ws vs : List Int} (h : ∀ L, pcnt f vs L = pcnt f ws L) : Cws f vs = Cws f ws := by
  funext L
  unfold Cws
  rw [h L]
theorem Cnt.old {f : Int → Int} {ws vs : List Int} {ks : List Nat} (c : Cnt f ws ks) (h : ∀ L, pcnt f vs L = pcnt f ws L) : Cnt f vs ks := ⟨c.nd, fun L => by rw [h L]; exact c.mem L⟩
theorem cws_new {f : Int → Int} {ws vs : List Int} {c : Nat} (c0 : 0 < c) (h : ∀ L, pcnt f vs L = pcnt f ws L + if L = c then c else 0) : Cws f vs = fun L => if L = c then Cws f ws c + 1 else Cws f ws L := by
  funext L
  show Cws f vs L = if L = c then Cws f ws c + 1 else Cws f ws L
  unfold Cws
  rw [h L]
  by_cases e : L = c
  · subst e
    rw [if_pos rfl, if_pos rfl, Nat.add_div_right _ c0]
    rfl
  · rw [if_neg e, if_neg e, Nat.add_zero]
theorem Cnt.again {f : Int → Int} {ws vs : List Int} {ks : List Nat} {c : Nat} (C : Cnt f ws ks) (hc : c ∈ ks) (h : ∀ L, pcnt f vs L = pcnt f ws L + if L = c then c else 0) : Cnt f vs ks := by
  refine ⟨C.nd, fun L => ?_⟩
  rw [h L]
  by_cases e : L = c
  · subst e
    have := (C.mem L).mp hc
    exact ⟨fun _ => by omega, fun _ => hc⟩
  · rw [if_neg e, Nat.add_zero]
    exact C.mem L
theorem Cnt.more {f : Int → Int} {ws vs : List Int} {ks : List Nat} {c : Nat} (C : Cnt f ws ks) (c0 : 0 < c) (hc : c ∉ ks) (h : ∀ L, pcnt f vs L = pcnt f ws L + if L = c then c else 0) : Cnt f vs (ks ++ [c]) := by
  refine ⟨?_, fun L => ?_⟩
  · rw [List.nodup_append]
    refine ⟨C.nd, by simp, fun a ha b hb e => ?_⟩
    rw [List.mem_singleton] at hb
    exact hc (by rw [← hb, ← e]; exact ha)
  · rw [h L, List.mem_append, List.mem_singleton]
    by_cases e : L = c
    · subst e
      rw [if_pos rfl]
      exact ⟨fun _ => by omega, fun _ => .inr rfl⟩
    · rw [if_neg e, Nat.add_zero, ← C.mem L]
      exact ⟨fun z => z.resolve_right e, .inl⟩
theorem cws_none {f : Int → Int} {ws : List Int} {ks : List Nat} {c : Nat} (C : Cnt f ws ks) (hc : c ∉ ks) : Cws f ws c = 0 := by
  have : pcnt f ws c = 0 := by
    have := mt (C.mem c).mpr hc
    omega
  unfold Cws
  rw [this, Nat.zero_div]
  rfl
/-- the sorted items are the rounds -/
theorem Cnt.rds {f : Int → Int} {m : Int} {ws : List Int} {ks : List Nat} {zs : List (Int × Int)} (C : Cnt f ws ks) (all : ∀ L, pcnt f ws L = Nper f m L) (pm : zs.Perm (rdD ks (Cws f ws))) (up : zs.Pairwise fun y z => SrtO.lexB z y = false) : Rds f m zs := by
  have nd : (zs.map (·.1)).Nodup := by
    have e := pm.map (·.1)
    refine e.nodup_iff.mpr ?_
    unfold rdD
    rw [List.map_map, List.nodup_iff_pairwise_ne, List.pairwise_map]
    have n := C.nd
    rw [List.nodup_iff_pairwise_ne] at n
    exact n.imp fun {a b} h z => h (by have : (a : Int) = (b : Int) := z; omega)
  refine ⟨?_, fun L c => ?_⟩
  · rw [List.nodup_iff_pairwise_ne, List.pairwise_map] at nd
    exact (up.and nd).imp fun {a b} z => by
      have z1 := SrtO.lexB_no.mp z.1
      have z2 := z.2
      omega
  · rw [pm.mem_iff]
    unfold rdD
    rw [List.mem_map]
    constructor
    · rintro ⟨M, hM, e⟩
      obtain ⟨rfl, rfl⟩ := Prod.mk.inj e
      refine ⟨M, rfl, by rw [← all M]; exact (C.mem M).mp hM, ?_⟩
      unfold Cws Crnd
      rw [all M]
    · rintro ⟨M, rfl, h, rfl⟩
      refine ⟨M, (C.mem M).mpr (by rw [all M]; exact h), ?_⟩
      unfold Cws Crnd
      rw [all M]
end Tw
namespace Tw
open PySem PySem.Spec PyProof.Rows L2
theorem orb_get (f : Int → Int) {n i : Nat} (x : Int) (h : i < n) : (orb f n x)[i]? = some (itr f i x) := by
  unfold orb
  rw [List.getElem?_map, List.getElem?_range h]
  rfl
theorem orb_idx {f : Int → Int} {n : Nat} {x y : Int} (h : y ∈ orb f n x) : (orb f n x).idxOf y < n ∧ itr f ((orb f n x).idxOf y) x = y := by
  have hl := List.idxOf_lt_length_of_mem h
  have e := List.getElem_idxOf hl
  rw [orb_len] at hl
  refine ⟨hl, ?_⟩
  have e2 := orb_get f x hl
  rw [List.getElem?_eq_getElem (by rw [orb_len]; exact hl), e] at e2
  exact (Option.some.inj e2).symm
theorem cnt_nil (f : Int → Int) : Cnt f [] [] := ⟨List.nodup_nil, fun L => by
  constructor
  · intro h; cases h
  · intro h
    obtain ⟨x, hx, _⟩ := pcnt_pos.mp h
    cases hx⟩
end Tw

/-! Rounds by taking away what is no next one; the law's counting. -/
namespace Tw
open PySem PySem.Spec PyProof.Rows L2
theorem sub_len : ∀ {l k : List Int}, l.Nodup → (∀ x ∈ l, x ∈ k) → l.length ≤ k.length
  | [], k, _, _ => Nat.zero_le _
  | a :: l, k, nd, h => by
    rw [List.nodup_cons] at nd
    have ha := h a List.mem_cons_self
    have ih := sub_len (k := k.erase a) nd.2 fun x hx => (List.mem_erase_of_ne (fun e => nd.1 (by rw [← e]; exact hx))).mpr (h x (List.mem_cons_of_mem _ hx))
    rw [List.length_erase_of_mem ha] at ih
    have := List.length_pos_of_mem ha
    show l.length + 1 ≤ k.length
    omega
theorem sub_eq {l k : List Int} (nl : l.Nodup) (h : ∀ x ∈ l, x ∈ k) (e : l.length = k.length) {x : Int} (hx : x ∈ k) : x ∈ l := by
  refine Classical.byContradiction fun c => ?_
  have := sub_len (l := x :: l) (k := k) (List.nodup_cons.mpr ⟨c, nl⟩) fun y hy => by
    rcases List.mem_cons.mp hy with e | e
    · rw [e]; exact hx
    · exact h y e
  have e2 : (x :: l).length = l.length + 1 := rfl
  omega
theorem up_nodup {l : List Int} (h : l.Pairwise (· < ·)) : l.Nodup := by
  rw [List.nodup_iff_pairwise_ne]
  exact h.imp fun {a b} z => by omega
structure LI (f : Int → Int) (m : Int) (left : List Int) (mn : Int) : Prop where
  up : left.Pairwise (· < ·)
  rg : Rng m left
  per : ∀ x, 0 ≤ x → x < m → (∃ L, Per f L x) → x ∈ left
  cl : Fcl f left
  on : mn = left.length → ∀ y ∈ left, ∃ z ∈ left, f z = y
theorem LI.step {f : Int → Int} {m : Int} {left out : List Int} {mn : Int} (fr : ∀ x, 0 ≤ f x ∧ f x < m) (h : LI f m left mn) (up : out.Pairwise (· < ·)) (mem : ∀ k, k ∈ out ↔ k ∈ left.map f) : LI f m out left.length ∧ out.length ≤ left.length := by
  have sub : ∀ x ∈ out, x ∈ left := fun x hx => by
    obtain ⟨y, hy, rfl⟩ := List.mem_map.mp ((mem x).mp hx)
    exact h.cl y hy
  refine ⟨⟨up, fun x hx => h.rg x (sub x hx), fun x x0 x1 hp => ?_, fun x hx => ?_, fun e y hy => ?_⟩, sub_len (up_nodup up) sub⟩
  · obtain ⟨L, hL⟩ := hp
    obtain ⟨y, e1, ⟨n, e2⟩, hM⟩ := per_prev hL
    refine (mem x).mpr (List.mem_map.mpr ⟨y, ?_, e1⟩)
    have yr : 0 ≤ y ∧ y < m := by
      rw [← e2]
      cases n with
      | zero => exact ⟨x0, x1⟩
      | succ n => exact fr _
    exact h.per y yr.1 yr.2 hM
  · exact (mem _).mpr (List.mem_map.mpr ⟨x, sub x hx, rfl⟩)
  · obtain ⟨z, hz, e2⟩ := List.mem_map.mp ((mem y).mp hy)
    exact ⟨z, sub_eq (up_nodup up) sub (by omega) hz, e2⟩
theorem LI.first {f : Int → Int} {m : Int} (fr : ∀ x, 0 ≤ f x ∧ f x < m) : LI f m (alls m) (-1) := by
  refine ⟨?_, fun x hx => alls_mem.mp hx, fun x x0 x1 _ => alls_mem.mpr ⟨x0, x1⟩, fun x _ => alls_mem.mpr (fr x), fun e => by omega⟩
  unfold alls
  rw [List.pairwise_map]
  exact (List.pairwise_lt_range (n := m.toNat)).imp fun {a b} h => by omega
theorem rg_alls (m : Int) : rgV 0 m = (alls m).map V.int := by
  unfold rgV alls
  rw [List.map_map, show (m - 0).toNat = m.toNat by omega]
  refine List.map_congr_left fun i _ => ?_
  show V.int (0 + (i : Int)) = V.int (i : Int)
  rw [Int.zero_add]
theorem alls_len (m : Int) : (alls m).length = m.toNat := by
  unfold alls
  rw [List.length_map, List.length_range]
/-! ### going round in what is left -/
structure LenI (f : Int → Int) (ws ls : List Int) : Prop where
  pos : ∀ x ∈ ls, 0 < x
  cnt : ∀ L : Nat, ls.count (L : Int) * L = pcnt f ws L
theorem LenI.nil (f : Int → Int) : LenI f [] [] := ⟨fun x hx => absurd hx (by simp), fun L => Nat.zero_mul L⟩
theorem LenI.new {f : Int → Int} {ws vs ls : List Int} {c : Nat} (h : LenI f ws ls) (c0 : 0 < c) (e : ∀ L, pcnt f vs L = pcnt f ws L + if L = c then c else 0) : LenI f vs (ls ++ [(c : Int)]) := by
  refine ⟨fun x hx => ?_, fun L => ?_⟩
  · rcases List.mem_append.mp hx with hx | hx
    · exact h.pos x hx
    · rw [List.mem_singleton.mp hx]
      omega
  · rw [e L, ← h.cnt L, List.count_append, Nat.add_mul]
    refine congrArg (ls.count (L : Int) * L + ·) ?_
    by_cases z : L = c
    · subst z
      rw [if_pos rfl, List.count_singleton_self, Nat.one_mul]
    · rw [if_neg z, List.count_eq_zero_of_not_mem (fun y => z (by have := List.mem_singleton.mp y; omega)), Nat.zero_mul]
theorem walk_whole {f : Int → Int} {ws : List Int} {n : Nat} {x : Int} (nd : (ws ++ orb f n x).Nodup) (fc : Fcl f ws) (hp : ∃ L, Per f L x) (n0 : 0 < n) (hy : itr f n x ∈ ws ++ orb f n x) (L : Nat) : pcnt f (ws ++ orb f n x) L = pcnt f ws L + if L = n then n else 0 := by
  obtain ⟨M, hM⟩ := hp
  rcases List.mem_append.mp hy with h | h
  · exact absurd hM (walk_old nd fc h n0 M)
  · obtain ⟨i, hi, e⟩ := orb_mem.mp h
    cases i with
    | zero => exact pcnt_new nd n0 e.symm L
    | succ i => exact absurd hM (walk_tail nd hi e.symm (Nat.succ_pos i) M)
theorem LenI.rds {f : Int → Int} {m : Int} {ws ls out : List Int} (h : LenI f ws ls) (all : ∀ L, pcnt f ws L = Nper f m L) (up : out.Pairwise (· < ·)) (mem : ∀ k, k ∈ out ↔ k ∈ ls) : Rds f m (out.map fun k => (k, ((ls.count k : Nat) : Int))) := by
  refine ⟨?_, fun L c => ?_⟩
  · rw [List.pairwise_map]
    exact up
  · rw [List.mem_map]
    have key : ∀ n : Nat, 0 < n → ((ls.count (n : Int) : Nat) : Int) = Crnd f m n := fun n n0 => by
      unfold Crnd
      rw [← all n, ← h.cnt n, Nat.mul_div_cancel _ n0]
    constructor
    · rintro ⟨k, hk, e⟩
      obtain ⟨rfl, rfl⟩ := Prod.mk.inj e
      have hl := (mem k).mp hk
      have k0 := h.pos k hl
      obtain ⟨n, rfl⟩ := Int.eq_ofNat_of_zero_le (show 0 ≤ k by omega)
      have n0 : 0 < n := by omega
      refine ⟨n, rfl, ?_, key n n0⟩
      rw [← all n, ← h.cnt n]
      exact Nat.mul_pos (List.count_pos_iff.mpr hl) n0
    · rintro ⟨n, rfl, hn, rfl⟩
      have hn2 := hn
      rw [← all n, ← h.cnt n] at hn
      have n0 : 0 < n := Nat.pos_of_mul_pos_left hn
      have c0 : 0 < ls.count (n : Int) := Nat.pos_of_mul_pos_right hn
      exact ⟨n, (mem _).mpr (List.count_pos_iff.mp c0), by rw [key n n0]⟩
/-! ### some rules of small bounds -/
theorem nper_g {f : Int → Int} {m : Int} (g : Int → Nat) (h : ∀ x ∈ alls m, Per f (g x) x) (L : Nat) : Nper f m L = (alls m).countP fun x => decide (g x = L) := by
  unfold Nper pcnt
  refine List.countP_congr fun x hx => ?_
  simp only [decide_eq_true_eq]
  exact ⟨fun z => per_uniq (h x hx) z, fun z => by rw [← z]; exact h x hx⟩
theorem rds_001 : Rds (stp 0 0 1) 1 [(1, 1)] := by
  have e : ∀ L, Nper (stp 0 0 1) 1 L = if L = 1 then 1 else 0 := fun L => by
    rw [nper_g (fun _ => 1) (by unfold Per; decide) L, show alls 1 = [0] by decide]
    by_cases c : L = 1
    · subst c; rfl
    · rw [if_neg c, List.countP_eq_zero]
      intro x _
      simp only [decide_eq_true_eq]
      exact fun z => c z.symm
  refine ⟨by simp, fun L c => ?_⟩
  constructor
  · intro h
    obtain ⟨rfl, rfl⟩ := Prod.mk.inj (List.mem_singleton.mp h)
    refine ⟨1, rfl, by rw [e]; decide, ?_⟩
    unfold Crnd
    rw [e]
    rfl
  · rintro ⟨n, rfl, h, rfl⟩
    rw [e] at h
    by_cases c : n = 1
    · subst c
      unfold Crnd
      rw [e]
      exact List.mem_singleton.mpr rfl
    · rw [if_neg c] at h
      omega
theorem rds_106 : Rds (stp 1 0 6) 6 [(1, 6)] := by
  have e : ∀ L, Nper (stp 1 0 6) 6 L = if L = 1 then 6 else 0 := fun L => by
    rw [nper_g (fun _ => 1) (by unfold Per; decide) L]
    by_cases c : L = 1
    · subst c; rfl
    · rw [if_neg c, List.countP_eq_zero]
      intro x _
      simp only [decide_eq_true_eq]
      exact fun z => c z.symm
  refine ⟨by simp, fun L c => ?_⟩
  constructor
  · intro h
    obtain ⟨rfl, rfl⟩ := Prod.mk.inj (List.mem_singleton.mp h)
    refine ⟨1, rfl, by rw [e]; decide, ?_⟩
    unfold Crnd
    rw [e]
    rfl
  · rintro ⟨n, rfl, h, rfl⟩
    rw [e] at h
    by_cases c : n = 1
    · subst c
      unfold Crnd
      rw [e]
      exact List.mem_singleton.mpr rfl
    · rw [if_neg c] at h
      omega
theorem rds_205 : Rds (stp 2 0 5) 5 [(1, 1), (4, 1)] := by
  have e : ∀ L, Nper (stp 2 0 5) 5 L = (if L = 1 then 1 else 0) + if L = 4 then 4 else 0 := fun L => by
    rw [nper_g (fun x => if x = 0 then 1 else 4) (by unfold Per; decide) L, show alls 5 = [0, 1, 2, 3, 4] by decide]
    by_cases c : L = 1
    · subst c; rfl
    · by_cases d : L = 4
      · subst d; rfl
      · rw [if_neg c, if_neg d, List.countP_eq_zero.mpr]
        intro x _
        simp only [decide_eq_true_eq]
        intro z
        by_cases x0 : x = 0
        · rw [if_pos x0] at z; exact c z.symm
        · rw [if_neg x0] at z; exact d z.symm
  refine ⟨by simp, fun L c => ?_⟩
  constructor
  · intro h
    rcases List.mem_cons.mp h with h | h
    · obtain ⟨rfl, rfl⟩ := Prod.mk.inj h
      refine ⟨1, rfl, by rw [e]; decide, ?_⟩
      unfold Crnd
      rw [e]
      rfl
    · obtain ⟨rfl, rfl⟩ := Prod.mk.inj (List.mem_singleton.mp h)
      refine ⟨4, rfl, by rw [e]; decide, ?_⟩
      unfold Crnd
      rw [e]
      rfl
  · rintro ⟨n, rfl, h, rfl⟩
    rw [e] at h
    by_cases c : n = 1
    · subst c
      unfold Crnd
      rw [e]
      exact List.mem_cons_self
    · by_cases d : n = 4
      · subst d
        unfold Crnd
        rw [e]
        exact List.mem_cons_of_mem _ (List.mem_singleton.mpr rfl)
      · rw [if_neg c, if_neg d] at h
        omega
end Tw
namespace Tw
open PySem PySem.Spec PyProof.Rows L2
/-- a method within a comprehension: the fragment is named -/
theorem bm_in {X : Cx} {K : PySem.W.Frag} {a b : Expr} {bs : List Expr} {ta : TE} {tb : TA} {nm : Str} {p1 p2 : Pos} {T i : String} {r : V → List V → Hp → VK → Prop} (hK : X.K = K) (h1 : PlainAttrs T) (h2 : Slot T nm i) (h3 : typeOf (.builtin i) = pure (.type "method_descriptor")) (h4 : MtR X i r) (h5 : PE X a ta) (h6 : PA X (b :: bs) tb)
    (k1 : attributeBase a nm X.env (eval a X.env) = eval a X.env := by rfl)
    (k2 : ((backTo p2 (starEach (b :: bs) X.env)).all (fun x => !x.1) && (backToKw p2 (keywordEach [] X.env)).all (fun x => x.1.isSome) && decide ((b :: bs).length + ([] : List Keyword).length + (if ([] : List Keyword).isEmpty then 0 else 1) < 30)) = true := by rfl)
    (k3 : (p1.endLine == p2.line) = true := by rfl) (k4 : starEach (b :: bs) X.env = (false, eval b X.env) :: starEach bs X.env := by rfl) (k5 : (backTo p2 (starEach bs X.env)).any (·.1) = false := by rfl) : PE X (.Call (.Attribute a nm p1) (b :: bs) [] p2) (tBM K T r ta tb) := by
  subst hK
  exact pe_bm h1 h2 h3 h4 h5 h6 k1 k2 k3 k4 k5
end Tw
namespace Tw
open PySem PySem.Spec PyProof.Rows L2
theorem yesT {σ : L2.St} {H : Hp} {A B : Hp → Prop} (h : A H) : tYes σ H fun b H3 => if b = true then A H3 else B H3 := by
  show if true = true then A H else B H
  rw [if_pos rfl]
  exact h
end Tw

/-! zip of two and of three, lists and tuples in any mix. -/
namespace Tw
open PySem PySem.Spec PyProof.Rows L2

/-- at a stands a list, or (true) a tuple -/
def SqX (K : PySem.W.Frag) : Bool → Hp → Addr → List V → Prop
  | true => SqT K
  | false => SqL K
def ItX : Bool → Heap → Addr → Addr → Nat → Prop
  | true, h, it, a, i => h.IsTupleIter it a i
  | false, h, it, a, i => h.IsListIter it a i
def AtX : Bool → Heap → Addr → Array Value → Prop
  | true, h, a, its => h.IsTuple a its
  | false, h, a, its => h.IsList a its
theorem ItX.obj {t : Bool} {h : Heap} {it a : Addr} {i : Nat} (q : ItX t h it a i) : ∃ o, h.get? it = some o ∧ ∀ v, o.data ≠ .cell v := by
  cases t with
  | true =>
    obtain ⟨o1, e1, _, d1⟩ := q
    exact ⟨o1, e1, fun v q => by rw [d1] at q; cases q⟩
  | false =>
    obtain ⟨o1, e1, _, d1⟩ := q
    exact ⟨o1, e1, fun v q => by rw [d1] at q; cases q⟩
theorem ItX.over {t : Bool} {h h' : Heap} {it a : Addr} {i : Nat} (q : ItX t h it a i) (k : ∀ o, h.get? it = some o → h'.get? it = some o) : ItX t h' it a i := by
  cases t with
  | true => exact Heap.IsTupleIter.at q k
  | false => exact Heap.IsListIter.at q k
theorem drawsX {prog : Program} {w : World} {A : Around} (t : Bool) (hh : A.handled = none) (it a : Addr) (ne : a ≠ it) (its : Array Value) : Draws prog w A it [it, a] its.size (fun i v => its[i]? = some v) (fun i h => ItX t h it a i ∧ AtX t h a its) := by
  cases t with
  | true => exact Draws.tuple hh it a ne its
  | false => exact Draws.list hh it a ne its
theorem beginsX (t : Bool) (a : Addr) (its : Array Value) : ∃ o, Begins (.ref a) o (fun h => AtX t h a its) ∧ ∀ (h : Heap) (it : Addr), h.get? it = some o → ItX t h it a 0 := by
  cases t with
  | true => exact ⟨_, begins_tuple a its, fun h it e => ⟨_, e, rfl, rfl⟩⟩
  | false => exact ⟨_, begins_list a its, fun h it e => ⟨_, e, rfl, rfl⟩⟩
theorem valsX2 {x y : V} {us : List Value} (r : Vals [x, y] us) : ∃ u v, us = [u, v] ∧ RelV x u ∧ RelV y v := by
  cases r with
  | cons a r =>
    cases r with
    | cons b r =>
      cases r
      exact ⟨_, _, rfl, a, b⟩
theorem valsX3 {x y z : V} {us : List Value} (r : Vals [x, y, z] us) : ∃ u v w, us = [u, v, w] ∧ RelV x u ∧ RelV y v ∧ RelV z w := by
  cases r with
  | cons a r =>
    obtain ⟨u, v, rfl, b, c⟩ := valsX2 r
    exact ⟨_, _, _, rfl, a, b, c⟩
theorem neN' {a b : Nat} (h : ¬ a = b) : (a : Addr) ≠ b := h
theorem nin2 {a b c : Nat} (h : ¬ a = b) (h' : ¬ a = c) : (a : Addr) ∉ ([b, c] : List Addr) := fun m => by
  rcases List.mem_cons.mp m with e | m
  · exact h e
  · exact h' (List.mem_singleton.mp m)
theorem sepX2 (n a b : Nat) (la : a < n) (lb : b < n) : ZipSep2 (n + 4) (n + 2) (n + 3) n (n + 1) [n, a] [n + 1, b] := by
  constructor <;> first | exact List.mem_cons_self | (refine neN' ?_; omega) | (refine nin2 ?_ ?_ <;> omega)
theorem sepX3 (n a b c : Nat) (la : a < n) (lb : b < n) (lc : c < n) : ZipSep3 (n + 5) (n + 3) (n + 4) n (n + 1) (n + 2) [n, a] [n + 1, b] [n + 2, c] := by
  constructor <;> first | exact List.mem_cons_self | (refine neN' ?_; omega) | (refine nin2 ?_ ?_ <;> omega)
theorem farX (n a k : Nat) (la : a < n) : (a : Addr) ≠ n + k := by
  refine neN' ?_
  omega
theorem lo5 {n c : Nat} (h : (c : Addr) ∈ ([n + 4, n + 2, n + 3, n, n + 1] : List Addr)) : n ≤ c := by
  have h' : c ∈ ([n + 4, n + 2, n + 3, n, n + 1] : List Nat) := h
  simp at h'
  omega
theorem lo6 {n c : Nat} (h : (c : Addr) ∈ ([n + 5, n + 3, n + 4, n, n + 1, n + 2] : List Addr)) : n ≤ c := by
  have h' : c ∈ ([n + 5, n + 3, n + 4, n, n + 1, n + 2] : List Nat) := h
  simp at h'
  omega
section
variable {X : Cx} {pins : List (Addr × Obj)} {σ : L2.St} {H : Hp} {s : Shared} {t : Bool} {a : Addr} {xs ys : List V}
theorem srcX (I : Inv X pins σ H s) (q : SqX X.K t H a xs) : ∃ its : List Value, Vals xs its ∧ AtX t s.heap a its.toArray ∧ a < s.heap.objs.size := by
  cases t with
  | true =>
    obtain ⟨its, rv, p, _⟩ := I.tuple q
    obtain ⟨o1, ho1, _⟩ := id p
    exact ⟨its, rv, p, Heap.lt_size ho1⟩
  | false =>
    obtain ⟨its, rv, p, _⟩ := I.list q
    exact ⟨its, rv, p.isList, p.lt⟩
theorem injX (I : Inv X pins σ H s) (q : SqX X.K t H a xs) (q' : SqX X.K t H a ys) : xs = ys := by
  cases t with
  | true => exact I.tuple_inj q q'
  | false => exact I.list_inj q q'
end

/-! ### 2 -/
def Itx2 (K : PySem.W.Frag) (t1 t2 : Bool) (a1 a2 : Addr) : It :=
  ⟨fun i H => ∃ (l1 l2 : List V) (x1 x2 : V), SqX K t1 H a1 l1 ∧ SqX K t2 H a2 l2 ∧ l1[i]? = some x1 ∧ l2[i]? = some x2,
    fun i H v H' => ∃ T x1 x2, v = .ref T ∧ H T = none ∧ H' = upd H T (.tup [x1, x2]) ∧ (∀ l, SqX K t1 H a1 l → l[i]? = some x1) ∧ (∀ l, SqX K t2 H a2 l → l[i]? = some x2),
    fun i H => ∃ l1 l2 : List V, SqX K t1 H a1 l1 ∧ SqX K t2 H a2 l2 ∧ i ≤ l1.length ∧ i ≤ l2.length ∧ (i = l1.length ∨ i = l2.length)⟩
theorem turn_x2 {P : Program} {w : World} {K : PySem.W.Frag} {elts : List Expr} {kk : Nat} {tpos : Pos} {t1 t2 : Bool} {a1 a2 z TI TO i1 i2 : Addr} (S : ZipSep2 z TI TO i1 i2 [i1, a1] [i2, a2]) (n1 : a1 ≠ i1) (n2 : a2 ≠ i2) :
    Turn P w K (.Tuple elts kk tpos) (Itx2 K t1 t2 a1 a2) [z, TI, TO, i1, i2] z (fun i h => IsZip h z TI TO .none ∧ IsTupOf2 h TI (.ref i1) (.ref i2) ∧ (∃ y1 y2, IsTupOf2 h TO y1 y2) ∧ ItX t1 h i1 a1 i ∧ ItX t2 h i2 a2 i) where
  mem := by simp
  obj := fun i h st c hc => by
    obtain ⟨hz, hTI, ⟨y1, y2, hTO⟩, h1, h2⟩ := st
    have e' : c = z ∨ c = TI ∨ c = TO ∨ c = i1 ∨ c = i2 := by simpa using hc
    rcases e' with q | q | q | q | q
    · rw [q]; exact ⟨_, hz, fun v q => nomatch q⟩
    · rw [q]; exact ⟨_, hTI, fun v q => nomatch q⟩
    · rw [q]; exact ⟨_, hTO, fun v q => nomatch q⟩
    · rw [q]; exact h1.obj
    · rw [q]; exact h2.obj
  keep := fun i h h' st k => by
    obtain ⟨hz, hTI, ⟨y1, y2, hTO⟩, h1, h2⟩ := st
    exact ⟨k z (by simp) _ hz, k TI (by simp) _ hTI, ⟨y1, y2, k TO (by simp) _ hTO⟩, h1.over fun o q => k i1 (by simp) o q, h2.over fun o q => k i2 (by simp) o q⟩
  item := by
    intro X hP hw hK hc i pins s σ H E I hf st hg
    subst hP hw hK
    obtain ⟨hz, hTI, ⟨y1, y2, hTO⟩, h1, h2⟩ := st
    obtain ⟨l1, l2, x1, x2, q1, q2, g1, g2⟩ := hg
    obtain ⟨s1, r1, p1, _⟩ := srcX I q1
    obtain ⟨u1, w1, v1⟩ := r1.get g1
    obtain ⟨s2, r2, p2, _⟩ := srcX I q2
    obtain ⟨u2, w2, v2⟩ := r2.get g2
    have hh : X.A.in1.handled = none := I.ok.hd hc
    have hzl : z < s.heap.objs.size := Heap.lt_size hz
    refine wpAny_pyNext_zipD2_item S (drawsX t1 hh i1 a1 n1 s1.toArray) (drawsX t2 hh i2 a2 n2 s2.toArray) hz hTI hTO ⟨h1, p1⟩ ⟨h2, p2⟩ (by have := (List.getElem?_eq_some_iff.mp w1).1; simpa using this) (by have := (List.getElem?_eq_some_iff.mp w2).1; simpa using this) fun z1 z2 h' tk e1 e2 z' TO' k1 k2 hT hsz hk => ?_
    obtain rfl : z1 = u1 := by
      rw [List.getElem?_toArray] at e1
      exact Option.some.inj (e1.symm.trans w1)
    obtain rfl : z2 = u2 := by
      rw [List.getElem?_toArray] at e2
      exact Option.some.inj (e2.symm.trans w2)
    refine ⟨_, rfl, wpAny_letOwnedTupleGo_zip (s := { s with heap := h', toks := tk }) z' fun h'' z'' sb => ?_⟩
    have hT2 : h''.get? s.heap.objs.size = some { cls := .type "tuple", data := .seq #[z1, z2] } := (sb.2 _ (Nat.ne_of_gt hzl)).trans hT
    have new : ObjOk X.prog X.w (upd H s.heap.objs.size (.tup [x1, x2])) h'' s.heap.objs.size (.tup [x1, x2]) :=
      ⟨by show 2 ≤ sizeLine; decide, [z1, z2], .cons v1 (.cons v2 .nil), ⟨_, hT2, rfl, _, rfl⟩⟩
    have I1 : Inv X pins σ (upd H s.heap.objs.size (.tup [x1, x2])) { s with heap := h'', toks := tk } :=
      I.turnedNew (t' := tk) (ch := [z, TI, TO, i1, i2]) (fun c o hb q => (sb.2 c (fun q' => hb (by simp [q']))).trans (hk c o (fun q' => hb (by simp [q'])) (fun q' => hb (by simp [q'])) (fun q' => hb (by simp [q'])) (fun q' => hb (by simp [q'])) q)) hf (Nat.le_refl _) new
    refine ⟨.ref s.heap.objs.size, _, I1, rfl, ⟨_, x1, x2, rfl, I.hok.fresh (Nat.le_refl _), rfl, fun l hl => by rw [injX I hl q1]; exact g1, fun l hl => by rw [injX I hl q2]; exact g2⟩, ⟨z'', ?_, ⟨z1, z2, ?_⟩, ?_, ?_⟩, fun c hcm => ?_⟩
    · exact (sb.2 _ S.TIz).trans (hk _ _ S.TIz S.TITO S.TIi1 S.TIi2 hTI)
    · exact (sb.2 _ S.TOz).trans TO'
    · exact k1.1.over fun o q => (sb.2 _ (Ne.symm S.zi1)).trans q
    · exact k2.1.over fun o q => (sb.2 _ (Ne.symm S.zi2)).trans q
    · have hlt : c < s.heap.objs.size := by
        have e' : c = z ∨ c = TI ∨ c = TO ∨ c = i1 ∨ c = i2 := by simpa using hcm
        rcases e' with q | q | q | q | q
        · rw [q]; exact hzl
        · rw [q]; exact Heap.lt_size hTI
        · rw [q]; exact Heap.lt_size hTO
        · rw [q]; obtain ⟨_, e1, _⟩ := h1.obj; exact Heap.lt_size e1
        · rw [q]; obtain ⟨_, e1, _⟩ := h2.obj; exact Heap.lt_size e1
      rw [upd_ne (Nat.ne_of_lt hlt)]
      exact (hf c hcm).1
  done := by
    intro X hP hw hK hc i pins s σ H E I hf st hg
    subst hP hw hK
    obtain ⟨hz, hTI, ⟨y1, y2, hTO⟩, h1, h2⟩ := st
    obtain ⟨l1, l2, q1, q2, b1, b2, hend⟩ := hg
    obtain ⟨s1, r1, p1, _⟩ := srcX I q1
    have c1 := r1.length
    obtain ⟨s2, r2, p2, _⟩ := srcX I q2
    have c2 := r2.length
    have hh : X.A.in1.handled = none := I.ok.hd hc
    refine wpAny_pyNext_zipD2_end S (drawsX t1 hh i1 a1 n1 s1.toArray) (drawsX t2 hh i2 a2 n2 s2.toArray) hz hTI hTO ⟨h1, p1⟩ ⟨h2, p2⟩ (by simp only [List.size_toArray]; omega) (by simp only [List.size_toArray]; omega) ?_ fun h' tk hk => ⟨rfl, I.turnedL (t' := tk) (ch := [z, TI, TO, i1, i2]) (fun c o hb q =>
      hk c o (fun q' => hb (by simp [q'])) (fun q' => hb (by simp [q'])) (fun q' => hb (by simp [q'])) (fun q' => hb (by simp [q'])) q) hf⟩
    simp only [List.size_toArray]
    omega
  self := fun A i s Q E st h => wpAny_pyIter_zip st.1 h
def iX2 (K : PySem.W.Frag) (ta : TA) : TI := fun σ H R => ta σ H fun vs H1 => ∃ (t1 t2 : Bool) (a1 a2 : Addr) (l1 l2 : List V), vs = [.ref a1, .ref a2] ∧ SqX K t1 H1 a1 l1 ∧ SqX K t2 H1 a2 l2 ∧ R (Itx2 K t1 t2 a1 a2) H1
theorem pi_x2 {X : Cx} {e1 e2 : Expr} {ta : TA} {p pos tpos : Pos} {elts : List Expr} {kk : Nat} (hg : Gl X "zip") (hm : X.mg "zip" = none) (ha : PA X [e1, e2] ta)
    (hs : starEach [e1, e2] X.env = (false, eval e1 X.env) :: starEach [e2] X.env := by rfl) (hpl : (backTo pos (starEach [e2] X.env)).any (·.1) = false := by rfl) :
    PI X (.Tuple elts kk tpos) (.Call (.Name "zip" p) [e1, e2] [] pos) (iX2 X.K ta) := by
  refine ⟨fun pins s σ H R I h => ?_⟩
  refine Call_ (ld_blt I hg hm PyProof.Rows.boot_zip (PyProof.Rows.callWith_type1 (thn (ha.run pos pins s σ H _ I h) fun us s1 ⟨vs, H1, I1, r1, q1⟩ => ?_) hs hpl))
  obtain ⟨t1, t2, a1, a2, l1, l2, ex, q1, q2, q⟩ := q1
  subst ex
  obtain ⟨u1, u2, rfl, ru1, ru2⟩ := valsX2 r1
  obtain rfl : u1 = Value.ref a1 := ru1
  obtain rfl : u2 = Value.ref a2 := ru2
  obtain ⟨ss1, r1, p1, lt1⟩ := srcX I1 q1
  obtain ⟨o1, B1, b1⟩ := beginsX t1 a1 ss1.toArray
  obtain ⟨ss2, r2, p2, lt2⟩ := srcX I1 q2
  obtain ⟨o2, B2, b2⟩ := beginsX t2 a2 ss2.toArray
  refine zip_begins2 B1 B2 p1 p2 fun h' hz hTI hTO g1 g2 hsz hk => wpAny_pyIter_zip hz ?_
  have I2 : Inv X pins σ H1 { s1 with heap := h' } := I1.kept (t' := s1.toks) hk
  refine ⟨s1.heap.objs.size + 4, [s1.heap.objs.size + 4, s1.heap.objs.size + 2, s1.heap.objs.size + 3, s1.heap.objs.size, s1.heap.objs.size + 1], _, _, H1, rfl, I2, turn_x2 (sepX2 _ _ _ lt1 lt2) (farX _ _ 0 lt1) (farX _ _ 1 lt2), ⟨hz, hTI, ⟨_, _, hTO⟩, b1 _ _ g1, b2 _ _ g2⟩, fun c hcm => ?_, q⟩
  have hle : s1.heap.objs.size ≤ c := lo5 hcm
  exact I1.fpOk hle (I1.hok.fresh hle)
theorem walk_x2 {K : PySem.W.Frag} {t1 t2 : Bool} {a1 a2 : Addr} {l1 l2 : List V} {n : Nat} (hn : n = min l1.length l2.length) : Walk (Itx2 K t1 t2 a1 a2) n (fun H => SqX K t1 H a1 l1 ∧ SqX K t2 H a2 l2) (fun i H v H' => ∃ T x1 x2, v = .ref T ∧ H T = none ∧ H' = upd H T (.tup [x1, x2]) ∧ l1[i]? = some x1 ∧ l2[i]? = some x2) := by
  subst hn
  refine ⟨fun i _ hi q => ?_, fun _ q => ⟨l1, l2, q.1, q.2, ?_⟩, fun i H v H' _ q y => ?_⟩
  · have h1 : i < l1.length := by omega
    have h2 : i < l2.length := by omega
    exact ⟨l1, l2, l1[i], l2[i], q.1, q.2, by simp [h1], by simp [h2]⟩
  · omega
  · obtain ⟨T, x1, x2, e1, e2, e3, f1, f2⟩ := y
    exact ⟨T, x1, x2, e1, e2, e3, f1 _ q.1, f2 _ q.2⟩

/-! ### 3 -/
def Itx3 (K : PySem.W.Frag) (t1 t2 t3 : Bool) (a1 a2 a3 : Addr) : It :=
  ⟨fun i H => ∃ (l1 l2 l3 : List V) (x1 x2 x3 : V), SqX K t1 H a1 l1 ∧ SqX K t2 H a2 l2 ∧ SqX K t3 H a3 l3 ∧ l1[i]? = some x1 ∧ l2[i]? = some x2 ∧ l3[i]? = some x3,
    fun i H v H' => ∃ T x1 x2 x3, v = .ref T ∧ H T = none ∧ H' = upd H T (.tup [x1, x2, x3]) ∧ (∀ l, SqX K t1 H a1 l → l[i]? = some x1) ∧ (∀ l, SqX K t2 H a2 l → l[i]? = some x2) ∧ (∀ l, SqX K t3 H a3 l → l[i]? = some x3),
    fun i H => ∃ l1 l2 l3 : List V, SqX K t1 H a1 l1 ∧ SqX K t2 H a2 l2 ∧ SqX K t3 H a3 l3 ∧ i ≤ l1.length ∧ i ≤ l2.length ∧ i ≤ l3.length ∧ (i = l1.length ∨ i = l2.length ∨ i = l3.length)⟩
theorem turn_x3 {P : Program} {w : World} {K : PySem.W.Frag} {elts : List Expr} {kk : Nat} {tpos : Pos} {t1 t2 t3 : Bool} {a1 a2 a3 z TI TO i1 i2 i3 : Addr} (S : ZipSep3 z TI TO i1 i2 i3 [i1, a1] [i2, a2] [i3, a3]) (n1 : a1 ≠ i1) (n2 : a2 ≠ i2) (n3 : a3 ≠ i3) :
    Turn P w K (.Tuple elts kk tpos) (Itx3 K t1 t2 t3 a1 a2 a3) [z, TI, TO, i1, i2, i3] z (fun i h => IsZip h z TI TO .none ∧ IsTupOf3 h TI (.ref i1) (.ref i2) (.ref i3) ∧ (∃ y1 y2 y3, IsTupOf3 h TO y1 y2 y3) ∧ ItX t1 h i1 a1 i ∧ ItX t2 h i2 a2 i ∧ ItX t3 h i3 a3 i) where
  mem := by simp
  obj := fun i h st c hc => by
    obtain ⟨hz, hTI, ⟨y1, y2, y3, hTO⟩, h1, h2, h3⟩ := st
    have e' : c = z ∨ c = TI ∨ c = TO ∨ c = i1 ∨ c = i2 ∨ c = i3 := by simpa using hc
    rcases e' with q | q | q | q | q | q
    · rw [q]; exact ⟨_, hz, fun v q => nomatch q⟩
    · rw [q]; exact ⟨_, hTI, fun v q => nomatch q⟩
    · rw [q]; exact ⟨_, hTO, fun v q => nomatch q⟩
    · rw [q]; exact h1.obj
    · rw [q]; exact h2.obj
    · rw [q]; exact h3.obj
  keep := fun i h h' st k => by
    obtain ⟨hz, hTI, ⟨y1, y2, y3, hTO⟩, h1, h2, h3⟩ := st
    exact ⟨k z (by simp) _ hz, k TI (by simp) _ hTI, ⟨y1, y2, y3, k TO (by simp) _ hTO⟩, h1.over fun o q => k i1 (by simp) o q, h2.over fun o q => k i2 (by simp) o q, h3.over fun o q => k i3 (by simp) o q⟩
  item := by
    intro X hP hw hK hc i pins s σ H E I hf st hg
    subst hP hw hK
    obtain ⟨hz, hTI, ⟨y1, y2, y3, hTO⟩, h1, h2, h3⟩ := st
    obtain ⟨l1, l2, l3, x1, x2, x3, q1, q2, q3, g1, g2, g3⟩ := hg
    obtain ⟨s1, r1, p1, _⟩ := srcX I q1
    obtain ⟨u1, w1, v1⟩ := r1.get g1
    obtain ⟨s2, r2, p2, _⟩ := srcX I q2
    obtain ⟨u2, w2, v2⟩ := r2.get g2
    obtain ⟨s3, r3, p3, _⟩ := srcX I q3
    obtain ⟨u3, w3, v3⟩ := r3.get g3
    have hh : X.A.in1.handled = none := I.ok.hd hc
    have hzl : z < s.heap.objs.size := Heap.lt_size hz
    refine wpAny_pyNext_zipD3_item S (drawsX t1 hh i1 a1 n1 s1.toArray) (drawsX t2 hh i2 a2 n2 s2.toArray) (drawsX t3 hh i3 a3 n3 s3.toArray) hz hTI hTO ⟨h1, p1⟩ ⟨h2, p2⟩ ⟨h3, p3⟩ (by have := (List.getElem?_eq_some_iff.mp w1).1; simpa using this) (by have := (List.getElem?_eq_some_iff.mp w2).1; simpa using this) (by have := (List.getElem?_eq_some_iff.mp w3).1; simpa using this) fun z1 z2 z3 h' tk e1 e2 e3 z' TO' k1 k2 k3 hT hsz hk => ?_
    obtain rfl : z1 = u1 := by
      rw [List.getElem?_toArray] at e1
      exact Option.some.inj (e1.symm.trans w1)
    obtain rfl : z2 = u2 := by
      rw [List.getElem?_toArray] at e2
      exact Option.some.inj (e2.symm.trans w2)
    obtain rfl : z3 = u3 := by
      rw [List.getElem?_toArray] at e3
      exact Option.some.inj (e3.symm.trans w3)
    refine ⟨_, rfl, wpAny_letOwnedTupleGo_zip (s := { s with heap := h', toks := tk }) z' fun h'' z'' sb => ?_⟩
    have hT2 : h''.get? s.heap.objs.size = some { cls := .type "tuple", data := .seq #[z1, z2, z3] } := (sb.2 _ (Nat.ne_of_gt hzl)).trans hT
    have new : ObjOk X.prog X.w (upd H s.heap.objs.size (.tup [x1, x2, x3])) h'' s.heap.objs.size (.tup [x1, x2, x3]) :=
      ⟨by show 3 ≤ sizeLine; decide, [z1, z2, z3], .cons v1 (.cons v2 (.cons v3 .nil)), ⟨_, hT2, rfl, _, rfl⟩⟩
    have I1 : Inv X pins σ (upd H s.heap.objs.size (.tup [x1, x2, x3])) { s with heap := h'', toks := tk } :=
      I.turnedNew (t' := tk) (ch := [z, TI, TO, i1, i2, i3]) (fun c o hb q => (sb.2 c (fun q' => hb (by simp [q']))).trans (hk c o (fun q' => hb (by simp [q'])) (fun q' => hb (by simp [q'])) (fun q' => hb (by simp [q'])) (fun q' => hb (by simp [q'])) (fun q' => hb (by simp [q'])) q)) hf (Nat.le_refl _) new
    refine ⟨.ref s.heap.objs.size, _, I1, rfl, ⟨_, x1, x2, x3, rfl, I.hok.fresh (Nat.le_refl _), rfl, fun l hl => by rw [injX I hl q1]; exact g1, fun l hl => by rw [injX I hl q2]; exact g2, fun l hl => by rw [injX I hl q3]; exact g3⟩, ⟨z'', ?_, ⟨z1, z2, z3, ?_⟩, ?_, ?_, ?_⟩, fun c hcm => ?_⟩
    · exact (sb.2 _ S.TIz).trans (hk _ _ S.TIz S.TITO S.TIi1 S.TIi2 S.TIi3 hTI)
    · exact (sb.2 _ S.TOz).trans TO'
    · exact k1.1.over fun o q => (sb.2 _ (Ne.symm S.zi1)).trans q
    · exact k2.1.over fun o q => (sb.2 _ (Ne.symm S.zi2)).trans q
    · exact k3.1.over fun o q => (sb.2 _ (Ne.symm S.zi3)).trans q
    · have hlt : c < s.heap.objs.size := by
        have e' : c = z ∨ c = TI ∨ c = TO ∨ c = i1 ∨ c = i2 ∨ c = i3 := by simpa using hcm
        rcases e' with q | q | q | q | q | q
        · rw [q]; exact hzl
        · rw [q]; exact Heap.lt_size hTI
        · rw [q]; exact Heap.lt_size hTO
        · rw [q]; obtain ⟨_, e1, _⟩ := h1.obj; exact Heap.lt_size e1
        · rw [q]; obtain ⟨_, e1, _⟩ := h2.obj; exact Heap.lt_size e1
        · rw [q]; obtain ⟨_, e1, _⟩ := h3.obj; exact Heap.lt_size e1
      rw [upd_ne (Nat.ne_of_lt hlt)]
      exact (hf c hcm).1
  done := by
    intro X hP hw hK hc i pins s σ H E I hf st hg
    subst hP hw hK
    obtain ⟨hz, hTI, ⟨y1, y2, y3, hTO⟩, h1, h2, h3⟩ := st
    obtain ⟨l1, l2, l3, q1, q2, q3, b1, b2, b3, hend⟩ := hg
    obtain ⟨s1, r1, p1, _⟩ := srcX I q1
    have c1 := r1.length
    obtain ⟨s2, r2, p2, _⟩ := srcX I q2
    have c2 := r2.length
    obtain ⟨s3, r3, p3, _⟩ := srcX I q3
    have c3 := r3.length
    have hh : X.A.in1.handled = none := I.ok.hd hc
    refine wpAny_pyNext_zipD3_end S (drawsX t1 hh i1 a1 n1 s1.toArray) (drawsX t2 hh i2 a2 n2 s2.toArray) (drawsX t3 hh i3 a3 n3 s3.toArray) hz hTI hTO ⟨h1, p1⟩ ⟨h2, p2⟩ ⟨h3, p3⟩ (by simp only [List.size_toArray]; omega) (by simp only [List.size_toArray]; omega) (by simp only [List.size_toArray]; omega) ?_ fun h' tk hk => ⟨rfl, I.turnedL (t' := tk) (ch := [z, TI, TO, i1, i2, i3]) (fun c o hb q =>
      hk c o (fun q' => hb (by simp [q'])) (fun q' => hb (by simp [q'])) (fun q' => hb (by simp [q'])) (fun q' => hb (by simp [q'])) (fun q' => hb (by simp [q'])) q) hf⟩
    simp only [List.size_toArray]
    omega
  self := fun A i s Q E st h => wpAny_pyIter_zip st.1 h
def iX3 (K : PySem.W.Frag) (ta : TA) : TI := fun σ H R => ta σ H fun vs H1 => ∃ (t1 t2 t3 : Bool) (a1 a2 a3 : Addr) (l1 l2 l3 : List V), vs = [.ref a1, .ref a2, .ref a3] ∧ SqX K t1 H1 a1 l1 ∧ SqX K t2 H1 a2 l2 ∧ SqX K t3 H1 a3 l3 ∧ R (Itx3 K t1 t2 t3 a1 a2 a3) H1
theorem pi_x3 {X : Cx} {e1 e2 e3 : Expr} {ta : TA} {p pos tpos : Pos} {elts : List Expr} {kk : Nat} (hg : Gl X "zip") (hm : X.mg "zip" = none) (ha : PA X [e1, e2, e3] ta)
    (hs : starEach [e1, e2, e3] X.env = (false, eval e1 X.env) :: starEach [e2, e3] X.env := by rfl) (hpl : (backTo pos (starEach [e2, e3] X.env)).any (·.1) = false := by rfl) :
    PI X (.Tuple elts kk tpos) (.Call (.Name "zip" p) [e1, e2, e3] [] pos) (iX3 X.K ta) := by
  refine ⟨fun pins s σ H R I h => ?_⟩
  refine Call_ (ld_blt I hg hm PyProof.Rows.boot_zip (PyProof.Rows.callWith_type1 (thn (ha.run pos pins s σ H _ I h) fun us s1 ⟨vs, H1, I1, r1, q1⟩ => ?_) hs hpl))
  obtain ⟨t1, t2, t3, a1, a2, a3, l1, l2, l3, ex, q1, q2, q3, q⟩ := q1
  subst ex
  obtain ⟨u1, u2, u3, rfl, ru1, ru2, ru3⟩ := valsX3 r1
  obtain rfl : u1 = Value.ref a1 := ru1
  obtain rfl : u2 = Value.ref a2 := ru2
  obtain rfl : u3 = Value.ref a3 := ru3
  obtain ⟨ss1, r1, p1, lt1⟩ := srcX I1 q1
  obtain ⟨o1, B1, b1⟩ := beginsX t1 a1 ss1.toArray
  obtain ⟨ss2, r2, p2, lt2⟩ := srcX I1 q2
  obtain ⟨o2, B2, b2⟩ := beginsX t2 a2 ss2.toArray
  obtain ⟨ss3, r3, p3, lt3⟩ := srcX I1 q3
  obtain ⟨o3, B3, b3⟩ := beginsX t3 a3 ss3.toArray
  refine zip_begins3 B1 B2 B3 p1 p2 p3 fun h' hz hTI hTO g1 g2 g3 hsz hk => wpAny_pyIter_zip hz ?_
  have I2 : Inv X pins σ H1 { s1 with heap := h' } := I1.kept (t' := s1.toks) hk
  refine ⟨s1.heap.objs.size + 5, [s1.heap.objs.size + 5, s1.heap.objs.size + 3, s1.heap.objs.size + 4, s1.heap.objs.size, s1.heap.objs.size + 1, s1.heap.objs.size + 2], _, _, H1, rfl, I2, turn_x3 (sepX3 _ _ _ _ lt1 lt2 lt3) (farX _ _ 0 lt1) (farX _ _ 1 lt2) (farX _ _ 2 lt3), ⟨hz, hTI, ⟨_, _, _, hTO⟩, b1 _ _ g1, b2 _ _ g2, b3 _ _ g3⟩, fun c hcm => ?_, q⟩
  have hle : s1.heap.objs.size ≤ c := lo6 hcm
  exact I1.fpOk hle (I1.hok.fresh hle)
theorem walk_x3 {K : PySem.W.Frag} {t1 t2 t3 : Bool} {a1 a2 a3 : Addr} {l1 l2 l3 : List V} {n : Nat} (hn : n = min (min l1.length l2.length) l3.length) : Walk (Itx3 K t1 t2 t3 a1 a2 a3) n (fun H => SqX K t1 H a1 l1 ∧ SqX K t2 H a2 l2 ∧ SqX K t3 H a3 l3) (fun i H v H' => ∃ T x1 x2 x3, v = .ref T ∧ H T = none ∧ H' = upd H T (.tup [x1, x2, x3]) ∧ l1[i]? = some x1 ∧ l2[i]? = some x2 ∧ l3[i]? = some x3) := by
  subst hn
  refine ⟨fun i _ hi q => ?_, fun _ q => ⟨l1, l2, l3, q.1, q.2.1, q.2.2, ?_⟩, fun i H v H' _ q y => ?_⟩
  · have h1 : i < l1.length := by omega
    have h2 : i < l2.length := by omega
    have h3 : i < l3.length := by omega
    exact ⟨l1, l2, l3, l1[i], l2[i], l3[i], q.1, q.2.1, q.2.2, by simp [h1], by simp [h2], by simp [h3]⟩
  · omega
  · obtain ⟨T, x1, x2, x3, e1, e2, e3, f1, f2, f3⟩ := y
    exact ⟨T, x1, x2, x3, e1, e2, e3, f1 _ q.1, f2 _ q.2.1, f3 _ q.2.2⟩
theorem tup_in {X : Cx} {K : PySem.W.Frag} {es : List Expr} {k : Nat} {t : TGs} {n : Nat} {pos : Pos} (hK : X.K = K) (hc : X.calm = true) (h : PGs X es t) (k1 : (assignEach es X.env).length = n := by rfl) (k2 : (assignEach es X.env).findIdx? (·.1) = none := by rfl) : PG X (.Tuple es k pos) (gTup K n t) := by
  subst hK
  exact pg_tup hc h k1 k2
end Tw

/-! zip of two whose tuples are kept under one name: the tuple it gave first may still be out, or be gone. -/
namespace Tw
open PySem PySem.Spec PyProof PyProof.Rows L2
/-- a zip that remembers a tuple or none -/
abbrev ZQ (h : Heap) (z TI TO : Addr) (v : Value) (f : Bool) : Prop := h.get? z = some ⟨.type "zip", none, .fields #[v, .bool f, .bool false, .ref TI, .ref TO], #[]⟩
def Rem (v : Value) : Prop := v = .none ∨ ∃ T : Nat, v = rawInt T
section
variable {prog : Program} {w : World} {A : Around} {E : Value → Shared → Prop} {s : Shared} {z TI TO i1 i2 : Addr} {fp1 fp2 : List Addr} {n1 n2 i : Nat} {P1 P2 : Nat → Value → Prop} {St1 St2 : Nat → Heap → Prop} {v : Value} {f : Bool}
theorem alive_w {a : Addr} {Q : Option Obj → Shared → Prop} (h : Q (s.heap.get? a) s) : wpAny (model prog w) A (loadIfAlive a) Q E s := fun _ _ _ => h
theorem zq_free {Q : Bool → Shared → Prop} (hz : ZQ s.heap z TI TO v f) (hv : Rem v) (ht : Q true s) (hf : ∀ h', ZQ h' z TI TO v true → Heap.SameBut z s.heap h' → Q false { s with heap := h' }) :
    wpAny (model prog w) A (Builtin.SmallTypes.ownedTupleIsFree (.ref z)) Q E s := by
  unfold Builtin.SmallTypes.ownedTupleIsFree; refine wpAny_bind (wpAny_field hz rfl (x := v) rfl ?_)
  rcases hv with rfl | ⟨T, rfl⟩
  · exact wpAny_pure ht
  · show wpAny (model prog w) A (loadIfAlive ((T : Int).toNat) >>= _) Q E s
    rw [Int.toNat_natCast]
    refine wpAny_bind (alive_w ?_)
    cases e : s.heap.get? T with
    | none => exact wpAny_pure ht
    | some o =>
      rw [if_neg (by simp)]; refine wpAny_bind (wpAny_field hz rfl (x := .bool f) rfl ?_)
      cases f with
      | true => rw [if_neg (by decide)]; exact wpAny_pure (hf s.heap hz (Heap.SameBut.refl _ _))
      | false => rw [if_pos (by rfl)]; exact wpAny_bind (wpAny_setField_rec hz (by simp) fun g hg sg => wpAny_pure (hf g hg sg))
/-- the next pair -/
theorem zq_item {Q : Value → Shared → Prop} (S : ZipSep2 z TI TO i1 i2 fp1 fp2) (D1 : Draws prog w A i1 fp1 n1 P1 St1) (D2 : Draws prog w A i2 fp2 n2 P2 St2) (hz : ZQ s.heap z TI TO v f) (hv : Rem v) (hI : IsTupOf2 s.heap TI (.ref i1) (.ref i2)) (hO : ∃ y1 y2, IsTupOf2 s.heap TO y1 y2) (st1 : St1 i s.heap) (st2 : St2 i s.heap) (b1 : i < n1) (b2 : i < n2)
    (hQ : ∀ x1 x2 h' tk v' f', P1 i x1 → P2 i x2 → ZQ h' z TI TO v' f' → Rem v' → (∃ y1 y2, IsTupOf2 h' TO y1 y2) → St1 (i + 1) h' → St2 (i + 1) h' → IsTupOf2 h' s.heap.objs.size x1 x2 → h'.objs.size = s.heap.objs.size + 1 → (∀ c o, c ≠ z → c ≠ TO → c ≠ i1 → c ≠ i2 → s.heap.get? c = some o → h'.get? c = some o) → Q (.ref s.heap.objs.size) { s with heap := h', toks := tk }) :
    wpAny (model prog w) A (Builtin.«zip.__next__» ⟨[.ref z], []⟩) (fun fin s' => ∃ v, fin = .done (.ret v) ∧ Q v s') E s := by
  obtain ⟨y1, y2, hO⟩ := hO
  obtain ⟨h0, gs, dr, tk, os⟩ := s
  show wpAny _ A (field (.ref z) 2 >>= _) _ E _; refine wpAny_bind (wpAny_field hz rfl (x := .bool false) rfl ?_)
  show wpAny _ A (field (.ref z) 3 >>= _) _ E _; refine wpAny_bind (wpAny_field hz rfl (x := .ref TI) rfl (wpAny_bind (wpAny_seqItems hI rfl ?_)))
  show wpAny _ A (Builtin.SmallTypes.ownedTupleIsFree (.ref z) >>= _) _ E _; refine wpAny_bind (zq_free hz hv ?_ fun ha za sa => ?_)
  · simp only [if_true]
    refine wpAny_bind (wpAny_rule (wpAny_bind (wpAny_field hz rfl (x := .ref TO) rfl (wpAny_bind (wpAny_setField_rec hz (by simp) fun ha za sa => ?_)))))
    replace za : ZQ ha z TI TO .ellipsis f := za
    replace sa : Heap.SameBut z h0 ha := sa
    refine wpAny_bind ?_; simp only [List.zipIdx_cons, List.zipIdx_nil, List.forIn_cons, List.forIn_nil]
    refine wpAny_bind (wpAny_bind (wpAny_onRaise ?_)); show wpAny _ A (Builtin.SmallTypes.nextOf (.ref i1) >>= _) _ _ ⟨ha, gs, dr, tk, os⟩
    refine wpAny_bind (D1.item i _ _ _ b1 (D1.over st1 sa S.zf1) fun x1 hb tb q1 t1 sb => wpAny_pure ?_)
    replace sb : Heap.SameBut i1 ha hb := sb
    have Ob : IsTupOf2 hb TO y1 y2 := sb.extBut _ _ S.Ti1 (sa.extBut _ _ S.TOz hO)
    refine wpAny_bind (wpAny_seqItems (s := ⟨hb, gs, dr, tb, os⟩) Ob rfl (wpAny_bind (updateSeq_IsTupOf2 (s := ⟨hb, gs, dr, tb, os⟩) Ob fun hc Oc sc => ?_)))
    replace Oc : IsTupOf2 hc TO x1 y2 := Oc
    replace sc : Heap.SameBut TO hb hc := sc
    refine wpAny_bind (wpAny_letGo (wpAny_pure (wpAny_bind (wpAny_bind (wpAny_onRaise ?_))))); show wpAny _ A (Builtin.SmallTypes.nextOf (.ref i2) >>= _) _ _ ⟨hc, gs, dr, tb, os⟩
    refine wpAny_bind (D2.item i _ _ _ b2 (D2.over (D2.over (D2.over st2 sa S.zf2) sb S.sep1_2) sc S.Tf2) fun x2 hd td q2 t2 sd => wpAny_pure ?_)
    replace sd : Heap.SameBut i2 hc hd := sd
    have Od : IsTupOf2 hd TO x1 y2 := sd.extBut _ _ S.Ti2 Oc
    refine wpAny_bind (wpAny_seqItems (s := ⟨hd, gs, dr, td, os⟩) Od rfl (wpAny_bind (updateSeq_IsTupOf2 (s := ⟨hd, gs, dr, td, os⟩) Od fun he Oe se => ?_)))
    replace Oe : IsTupOf2 he TO x1 x2 := Oe
    replace se : Heap.SameBut TO hd he := se
    refine wpAny_bind (wpAny_letGo (wpAny_pure (wpAny_pure (wpAny_bind (wpAny_seqItems (s := ⟨he, gs, dr, td, os⟩) Oe rfl (wpAny_bind (wpAny_newTuple ?_)))))))
    have sz : he.objs.size = h0.objs.size := by rw [se.1, sd.1, sc.1, sb.1, sa.1]
    have ze : ZQ he z TI TO .ellipsis f := se.extBut _ _ S.TOz.symm (sd.extBut _ _ S.zi2 (sc.extBut _ _ S.TOz.symm (sb.extBut _ _ S.zi1 za)))
    have fr : ∀ c o, c ≠ z → c ≠ TO → c ≠ i1 → c ≠ i2 → h0.get? c = some o → he.get? c = some o := fun c o n1 n2 n3 n4 k => se.extBut _ _ n2 (sd.extBut _ _ n4 (sc.extBut _ _ n2 (sb.extBut _ _ n3 (sa.extBut _ _ n1 k))))
    have u1 : St1 (i + 1) he := D1.over (D1.over (D1.over t1 sc S.Tf1) sd S.sep2_1) se S.Tf1
    have u2 : St2 (i + 1) he := D2.over t2 se S.Tf2
    have lz : z < he.objs.size := Heap.lt_size ze
    show wpAny _ A (Builtin.SmallTypes.ownedTupleHandOut (.ref z) (.ref he.objs.size) >>= _) _ E ⟨he.push { cls := .type "tuple", data := .seq #[x1, x2] }, gs, dr, td, os⟩
    refine wpAny_bind ?_; unfold Builtin.SmallTypes.ownedTupleHandOut
    have zf : ZQ (he.push { cls := .type "tuple", data := .seq #[x1, x2] }) z TI TO .ellipsis f := Heap.get?_push_of_some _ ze
    refine wpAny_bind (wpAny_setField_rec zf (by simp) fun hf zf' sf => ?_)
    replace zf' : ZQ hf z TI TO (rawInt he.objs.size) f := zf'
    refine wpAny_setField_rec zf' (by simp) fun hg zg sg => ?_
    replace zg : ZQ hg z TI TO (rawInt he.objs.size) false := zg
    replace sf : Heap.SameBut z (he.push { cls := .type "tuple", data := .seq #[x1, x2] }) hf := sf
    replace sg : Heap.SameBut z hf hg := sg
    have up : ∀ c o, c ≠ z → he.get? c = some o → hg.get? c = some o := fun c o n1 k => sg.extBut _ _ n1 (sf.extBut _ _ n1 (Heap.get?_push_of_some _ k))
    have hT : IsTupOf2 hg he.objs.size x1 x2 := sg.extBut _ _ (Nat.ne_of_gt lz) (sf.extBut _ _ (Nat.ne_of_gt lz) (Heap.get?_push_size _ rfl))
    have sz2 : hg.objs.size = he.objs.size + 1 := by rw [sg.1, sf.1, Heap.size_push]
    rw [sz] at hT sz2
    refine wpAny_pure ⟨_, rfl, ?_⟩; show Q (.ref he.objs.size) ⟨hg, gs, dr, td, os⟩
    rw [sz]; exact hQ x1 x2 hg td _ _ q1 q2 zg (.inr ⟨_, rfl⟩) ⟨_, _, up _ _ S.TOz Oe⟩ (D1.frame _ _ _ u1 fun b hb o k => up b o (fun q => S.zf1 (q ▸ hb)) k) (D2.frame _ _ _ u2 fun b hb o k => up b o (fun q => S.zf2 (q ▸ hb)) k) hT sz2 fun c o n1 n2 n3 n4 k => up c o n1 (fr c o n1 n2 n3 n4 k)
  · simp only [Bool.false_eq_true, if_false]
    replace za : ZQ ha z TI TO v true := za
    replace sa : Heap.SameBut z h0 ha := sa
    refine wpAny_bind ?_; rw [← Array.forIn_toList]; simp only [List.forIn_cons, List.forIn_nil]
    refine wpAny_bind (wpAny_bind (wpAny_holding ?_)); show wpAny _ _ (Builtin.SmallTypes.nextOf (.ref i1) >>= _) _ _ ⟨ha, gs, dr, tk, os⟩
    refine wpAny_bind (D1.item i _ _ _ b1 (D1.over st1 sa S.zf1) fun x1 hb tb q1 t1 sb => wpAny_pure (wpAny_pure ?_))
    replace sb : Heap.SameBut i1 ha hb := sb
    refine wpAny_bind (wpAny_bind (wpAny_holding ?_)); show wpAny _ _ (Builtin.SmallTypes.nextOf (.ref i2) >>= _) _ _ ⟨hb, gs, dr, tb, os⟩
    refine wpAny_bind (D2.item i _ _ _ b2 (D2.over (D2.over st2 sa S.zf2) sb S.sep1_2) fun x2 hd td q2 t2 sd => wpAny_pure (wpAny_pure (wpAny_pure ?_)))
    replace sd : Heap.SameBut i2 hb hd := sd
    show wpAny _ _ (newTuple [x1, x2] >>= _) _ _ ⟨hd, gs, dr, td, os⟩; refine wpAny_bind (wpAny_newTuple ?_)
    have sz : hd.objs.size = h0.objs.size := by rw [sd.1, sb.1, sa.1]
    have zd : ZQ hd z TI TO v true := sd.extBut _ _ S.zi2 (sb.extBut _ _ S.zi1 za)
    have fr : ∀ c o, c ≠ z → c ≠ i1 → c ≠ i2 → h0.get? c = some o → hd.get? c = some o := fun c o n1 n3 n4 k => sd.extBut _ _ n4 (sb.extBut _ _ n3 (sa.extBut _ _ n1 k))
    refine wpAny_pure ⟨_, rfl, ?_⟩; show Q (.ref hd.objs.size) ⟨hd.push { cls := .type "tuple", data := .seq #[x1, x2] }, gs, dr, td, os⟩
    have hT : IsTupOf2 (hd.push { cls := .type "tuple", data := .seq #[x1, x2] }) hd.objs.size x1 x2 := Heap.get?_push_size _ rfl
    have sz2 : (hd.push { cls := .type "tuple", data := .seq #[x1, x2] }).objs.size = hd.objs.size + 1 := Heap.size_push ..
    have up : ∀ c o, hd.get? c = some o → (hd.push { cls := .type "tuple", data := .seq #[x1, x2] }).get? c = some o := fun c o k => Heap.get?_push_of_some _ k
    generalize hd.push { cls := .type "tuple", data := .seq #[x1, x2] } = hg at hT sz2 up
    rw [sz] at hT sz2 ⊢
    exact hQ x1 x2 hg td _ _ q1 q2 (up _ _ zd) hv ⟨_, _, up _ _ (fr _ _ S.TOz S.Ti1 S.Ti2 hO)⟩ (D1.frame _ _ _ (D1.over t1 sd S.sep2_1) fun b _ o k => up b o k) (D2.frame _ _ _ t2 fun b _ o k => up b o k) hT sz2 fun c o n1 _ n3 n4 k => up c o (fr c o n1 n3 n4 k)
/-- no pair more -/
theorem zq_end {Q : Fin → Shared → Prop} (S : ZipSep2 z TI TO i1 i2 fp1 fp2) (D1 : Draws prog w A i1 fp1 n1 P1 St1) (D2 : Draws prog w A i2 fp2 n2 P2 St2) (hz : ZQ s.heap z TI TO v f) (hv : Rem v) (hI : IsTupOf2 s.heap TI (.ref i1) (.ref i2)) (hO : ∃ y1 y2, IsTupOf2 s.heap TO y1 y2) (st1 : St1 i s.heap) (st2 : St2 i s.heap) (b1 : i ≤ n1) (b2 : i ≤ n2) (hend : i = n1 ∨ i = n2)
    (hE : ∀ h' tk e, (∀ c o, c ≠ z → c ≠ TO → c ≠ i1 → c ≠ i2 → s.heap.get? c = some o → h'.get? c = some o) → (∃ o, h'.get? e = some o ∧ o.cls = .type "StopIteration") → E (.ref e) { s with heap := h', toks := tk }) :
    wpAny (model prog w) A (Builtin.«zip.__next__» ⟨[.ref z], []⟩) Q E s := by
  obtain ⟨y1, y2, hO⟩ := hO
  obtain ⟨h0, gs, dr, tk, os⟩ := s
  show wpAny _ A (field (.ref z) 2 >>= _) _ E _; refine wpAny_bind (wpAny_field hz rfl (x := .bool false) rfl ?_)
  show wpAny _ A (field (.ref z) 3 >>= _) _ E _; refine wpAny_bind (wpAny_field hz rfl (x := .ref TI) rfl (wpAny_bind (wpAny_seqItems hI rfl ?_)))
  show wpAny _ A (Builtin.SmallTypes.ownedTupleIsFree (.ref z) >>= _) _ E _; refine wpAny_bind (zq_free hz hv ?_ fun ha za sa => ?_)
  · simp only [if_true]
    refine wpAny_bind (wpAny_rule (wpAny_bind (wpAny_field hz rfl (x := .ref TO) rfl (wpAny_bind (wpAny_setField_rec hz (by simp) fun ha za sa => ?_)))))
    replace za : ZQ ha z TI TO .ellipsis f := za
    replace sa : Heap.SameBut z h0 ha := sa
    refine wpAny_bind ?_; simp only [List.zipIdx_cons, List.zipIdx_nil, List.forIn_cons, List.forIn_nil]
    refine wpAny_bind (wpAny_bind (wpAny_onRaise ?_)); show wpAny _ A (Builtin.SmallTypes.nextOf (.ref i1) >>= _) _ _ ⟨ha, gs, dr, tk, os⟩
    by_cases lt : i < n1
    · refine wpAny_bind (D1.item i _ _ _ lt (D1.over st1 sa S.zf1) fun x1 hb tb q1 t1 sb => wpAny_pure ?_)
      replace sb : Heap.SameBut i1 ha hb := sb
      have Ob : IsTupOf2 hb TO y1 y2 := sb.extBut _ _ S.Ti1 (sa.extBut _ _ S.TOz hO)
      refine wpAny_bind (wpAny_seqItems (s := ⟨hb, gs, dr, tb, os⟩) Ob rfl (wpAny_bind (updateSeq_IsTupOf2 (s := ⟨hb, gs, dr, tb, os⟩) Ob fun hc Oc sc => ?_)))
      replace sc : Heap.SameBut TO hb hc := sc
      obtain rfl : i = n2 := by omega
      refine wpAny_bind (wpAny_letGo (wpAny_pure (wpAny_bind (wpAny_bind (wpAny_onRaise ?_))))); show wpAny _ A (Builtin.SmallTypes.nextOf (.ref i2) >>= _) _ _ ⟨hc, gs, dr, tb, os⟩
      refine wpAny_bind (D2.done ⟨hc, gs, dr, tb, os⟩ _ _ (D2.over (D2.over (D2.over st2 sa S.zf2) sb S.sep1_2) sc S.Tf2) fun hd e sd he => ?_)
      replace sd : Heap.ExtBut i2 hc hd := sd
      obtain ⟨oe, ho, hc'⟩ := he
      replace ho : hd.get? e = some oe := ho
      have zd : ZQ hd z TI TO .ellipsis f := sd _ _ S.zi2 (sc.extBut _ _ S.TOz.symm (sb.extBut _ _ S.zi1 za))
      have ne : e ≠ z := fun k => by subst k; rw [zd] at ho; cases ho; simp at hc'
      refine wpAny_setField_rec (s := ⟨hd, gs, dr, tb, os⟩) zd (by simp) fun hg _ sg => ?_
      replace sg : Heap.SameBut z hd hg := sg
      exact hE hg tb e (fun c o m1 m2 m3 m4 k => sg.extBut _ _ m1 (sd _ _ m4 (sc.extBut _ _ m2 (sb.extBut _ _ m3 (sa.extBut _ _ m1 k))))) ⟨oe, sg.extBut _ _ ne ho, hc'⟩
    · obtain rfl : i = n1 := by omega
      refine wpAny_bind (D1.done ⟨ha, gs, dr, tk, os⟩ _ _ (D1.over st1 sa S.zf1) fun hd e sd he => ?_)
      replace sd : Heap.ExtBut i1 ha hd := sd
      obtain ⟨oe, ho, hc'⟩ := he
      replace ho : hd.get? e = some oe := ho
      have zd : ZQ hd z TI TO .ellipsis f := sd _ _ S.zi1 za
      have ne : e ≠ z := fun k => by subst k; rw [zd] at ho; cases ho; simp at hc'
      refine wpAny_setField_rec (s := ⟨hd, gs, dr, tk, os⟩) zd (by simp) fun hg _ sg => ?_
      replace sg : Heap.SameBut z hd hg := sg
      exact hE hg tk e (fun c o m1 m2 m3 m4 k => sg.extBut _ _ m1 (sd _ _ m3 (sa.extBut _ _ m1 k))) ⟨oe, sg.extBut _ _ ne ho, hc'⟩
  · simp only [Bool.false_eq_true, if_false]
    replace sa : Heap.SameBut z h0 ha := sa
    refine wpAny_bind ?_; rw [← Array.forIn_toList]; simp only [List.forIn_cons, List.forIn_nil]
    refine wpAny_bind (wpAny_bind (wpAny_holding ?_)); show wpAny _ _ (Builtin.SmallTypes.nextOf (.ref i1) >>= _) _ _ ⟨ha, gs, dr, tk, os⟩
    by_cases lt : i < n1
    · refine wpAny_bind (D1.item i _ _ _ lt (D1.over st1 sa S.zf1) fun x1 hb tb q1 t1 sb => wpAny_pure (wpAny_pure ?_))
      replace sb : Heap.SameBut i1 ha hb := sb
      obtain rfl : i = n2 := by omega
      refine wpAny_bind (wpAny_bind (wpAny_holding ?_)); show wpAny _ _ (Builtin.SmallTypes.nextOf (.ref i2) >>= _) _ _ ⟨hb, gs, dr, tb, os⟩
      refine wpAny_bind (D2.done ⟨hb, gs, dr, tb, os⟩ _ _ (D2.over (D2.over st2 sa S.zf2) sb S.sep1_2) fun hd e sd he => ?_)
      exact hE hd tb e (fun c o m1 m2 m3 m4 k => sd _ _ m4 (sb.extBut _ _ m3 (sa.extBut _ _ m1 k))) he
    · obtain rfl : i = n1 := by omega
      refine wpAny_bind (D1.done ⟨ha, gs, dr, tk, os⟩ _ _ (D1.over st1 sa S.zf1) fun hd e sd he => ?_)
      exact hE hd tk e (fun c o m1 m2 m3 m4 k => sd _ _ m3 (sa.extBut _ _ m1 k)) he
theorem zq_iter {Q : Value → Shared → Prop} (hz : ZQ s.heap z TI TO v f) (h : Q (.ref z) s) : wpAny (model prog w) A (pyIter (.ref z)) Q E s := by
  have ty : s.TypeIs (.ref z) "zip" := ⟨_, hz, rfl⟩
  refine wpAny_pyIter_slot ty F.slot_zip_iter (wpAny_call_entry F.slot_zip_iter ty F.entry_zip_iter ?_ (F.args_zip_iter_1 _)); show wpAny _ A.in1 (ret (.ref z)) _ _ s
  exact wpAny_pure ⟨_, rfl, "zip", _, ty, F.slot_zip_next.lookup, h⟩
theorem zq_pyItem {Q : Option Value → Shared → Prop} (S : ZipSep2 z TI TO i1 i2 fp1 fp2) (D1 : Draws prog w A.in1 i1 fp1 n1 P1 St1) (D2 : Draws prog w A.in1 i2 fp2 n2 P2 St2) (hz : ZQ s.heap z TI TO v f) (hv : Rem v) (hI : IsTupOf2 s.heap TI (.ref i1) (.ref i2)) (hO : ∃ y1 y2, IsTupOf2 s.heap TO y1 y2) (st1 : St1 i s.heap) (st2 : St2 i s.heap) (b1 : i < n1) (b2 : i < n2)
    (hQ : ∀ x1 x2 h' tk v' f', P1 i x1 → P2 i x2 → ZQ h' z TI TO v' f' → Rem v' → (∃ y1 y2, IsTupOf2 h' TO y1 y2) → St1 (i + 1) h' → St2 (i + 1) h' → IsTupOf2 h' s.heap.objs.size x1 x2 → h'.objs.size = s.heap.objs.size + 1 → (∀ c o, c ≠ z → c ≠ TO → c ≠ i1 → c ≠ i2 → s.heap.get? c = some o → h'.get? c = some o) → Q (some (.ref s.heap.objs.size)) { s with heap := h', toks := tk }) :
    wpAny (model prog w) A (pyNext (.ref z)) Q E s := by
  have ty : s.TypeIs (.ref z) "zip" := ⟨_, hz, rfl⟩
  unfold pyNext; exact wpAny_bind (wpAny_attempt (wpAny_callSpecial?_slot (name := Str.ofString "__next__") ty F.slot_zip_next (wpAny_call_entry F.slot_zip_next ty F.entry_zip_next (zq_item S D1 D2 hz hv hI hO st1 st2 b1 b2 fun x1 x2 h' tk v' f' q1 q2 q3 q4 q5 q6 q7 q8 q9 q10 => wpAny_pure (hQ x1 x2 h' tk v' f' q1 q2 q3 q4 q5 q6 q7 q8 q9 q10)) (F.args_zip_next_1 _))))
theorem zq_pyEnd {Q : Option Value → Shared → Prop} (S : ZipSep2 z TI TO i1 i2 fp1 fp2) (D1 : Draws prog w A.in1 i1 fp1 n1 P1 St1) (D2 : Draws prog w A.in1 i2 fp2 n2 P2 St2) (hz : ZQ s.heap z TI TO v f) (hv : Rem v) (hI : IsTupOf2 s.heap TI (.ref i1) (.ref i2)) (hO : ∃ y1 y2, IsTupOf2 s.heap TO y1 y2) (st1 : St1 i s.heap) (st2 : St2 i s.heap) (b1 : i ≤ n1) (b2 : i ≤ n2) (hend : i = n1 ∨ i = n2)
    (hQ : ∀ h' tk, (∀ c o, c ≠ z → c ≠ TO → c ≠ i1 → c ≠ i2 → s.heap.get? c = some o → h'.get? c = some o) → Q none { s with heap := h', toks := tk }) : wpAny (model prog w) A (pyNext (.ref z)) Q E s := by
  have ty : s.TypeIs (.ref z) "zip" := ⟨_, hz, rfl⟩
  unfold pyNext; refine wpAny_bind (wpAny_attempt (wpAny_callSpecial?_slot (name := Str.ofString "__next__") ty F.slot_zip_next (wpAny_call_entry F.slot_zip_next ty F.entry_zip_next (zq_end S D1 D2 hz hv hI hO st1 st2 b1 b2 hend fun h' tk e hk he => ?_) (F.args_zip_next_1 _))))
  obtain ⟨o, ho, hc⟩ := he
  exact wpAny_bind (wpAny_isInstance (T := "StopIteration") (b := true) ⟨o, ho, hc⟩ isSubtype_stop (wpAny_pure (hQ _ _ hk)))
end
theorem turn_x2n {P : Program} {w : World} {K : PySem.W.Frag} {y : Str} {py : Pos} {t1 t2 : Bool} {a1 a2 z TI TO i1 i2 : Addr} (S : ZipSep2 z TI TO i1 i2 [i1, a1] [i2, a2]) (n1 : a1 ≠ i1) (n2 : a2 ≠ i2) :
    Turn P w K (.Name y py) (Itx2 K t1 t2 a1 a2) [z, TI, TO, i1, i2] z (fun i h => (∃ v f, ZQ h z TI TO v f ∧ Rem v) ∧ IsTupOf2 h TI (.ref i1) (.ref i2) ∧ (∃ y1 y2, IsTupOf2 h TO y1 y2) ∧ ItX t1 h i1 a1 i ∧ ItX t2 h i2 a2 i) where
  mem := by simp
  obj := fun i h st c hc => by
    obtain ⟨⟨v, f, hz, _⟩, hTI, ⟨y1, y2, hTO⟩, h1, h2⟩ := st
    have e' : c = z ∨ c = TI ∨ c = TO ∨ c = i1 ∨ c = i2 := by simpa using hc
    rcases e' with q | q | q | q | q
    · rw [q]; exact ⟨_, hz, fun v q => nomatch q⟩
    · rw [q]; exact ⟨_, hTI, fun v q => nomatch q⟩
    · rw [q]; exact ⟨_, hTO, fun v q => nomatch q⟩
    · rw [q]; exact h1.obj
    · rw [q]; exact h2.obj
  keep := fun i h h' st k => by
    obtain ⟨⟨v, f, hz, hv⟩, hTI, ⟨y1, y2, hTO⟩, h1, h2⟩ := st
    exact ⟨⟨v, f, k z (by simp) _ hz, hv⟩, k TI (by simp) _ hTI, ⟨y1, y2, k TO (by simp) _ hTO⟩, h1.over fun o q => k i1 (by simp) o q, h2.over fun o q => k i2 (by simp) o q⟩
  item := by
    intro X hP hw hK hc i pins s σ H E I hf st hg
    subst hP hw hK
    obtain ⟨⟨v, f, hz, hv⟩, hTI, hTO, h1, h2⟩ := st
    obtain ⟨l1, l2, x1, x2, q1, q2, g1, g2⟩ := hg
    obtain ⟨s1, r1, p1, _⟩ := srcX I q1
    obtain ⟨u1, w1, v1⟩ := r1.get g1
    obtain ⟨s2, r2, p2, _⟩ := srcX I q2
    obtain ⟨u2, w2, v2⟩ := r2.get g2
    have hh : X.A.in1.handled = none := I.ok.hd hc
    have hzl : z < s.heap.objs.size := Heap.lt_size hz
    refine zq_pyItem S (drawsX t1 hh i1 a1 n1 s1.toArray) (drawsX t2 hh i2 a2 n2 s2.toArray) hz hv hTI hTO ⟨h1, p1⟩ ⟨h2, p2⟩ (by have := (List.getElem?_eq_some_iff.mp w1).1; simpa using this) (by have := (List.getElem?_eq_some_iff.mp w2).1; simpa using this) fun z1 z2 h' tk v' f' e1 e2 z' hv' TO' k1 k2 hT hsz hk => ?_
    obtain rfl : z1 = u1 := by
      rw [List.getElem?_toArray] at e1
      exact Option.some.inj (e1.symm.trans w1)
    obtain rfl : z2 = u2 := by
      rw [List.getElem?_toArray] at e2
      exact Option.some.inj (e2.symm.trans w2)
    have new : ObjOk X.prog X.w (upd H s.heap.objs.size (.tup [x1, x2])) h' s.heap.objs.size (.tup [x1, x2]) :=
      ⟨by show 2 ≤ sizeLine; decide, [z1, z2], .cons v1 (.cons v2 .nil), ⟨_, hT, rfl, _, rfl⟩⟩
    have I1 : Inv X pins σ (upd H s.heap.objs.size (.tup [x1, x2])) { s with heap := h', toks := tk } :=
      I.turnedNew (t' := tk) (ch := [z, TI, TO, i1, i2]) (fun c o hb q => hk c o (fun q' => hb (by simp [q'])) (fun q' => hb (by simp [q'])) (fun q' => hb (by simp [q'])) (fun q' => hb (by simp [q'])) q) hf (Nat.le_refl _) new
    refine ⟨_, rfl, wpAny_pure ⟨.ref s.heap.objs.size, _, I1, rfl, ⟨_, x1, x2, rfl, I.hok.fresh (Nat.le_refl _), rfl, fun l hl => by rw [injX I hl q1]; exact g1, fun l hl => by rw [injX I hl q2]; exact g2⟩, ⟨⟨v', f', z', hv'⟩, hk _ _ S.TIz S.TITO S.TIi1 S.TIi2 hTI, TO', k1.1, k2.1⟩, fun c hcm => ?_⟩⟩
    have hlt : c < s.heap.objs.size := by
      have e' : c = z ∨ c = TI ∨ c = TO ∨ c = i1 ∨ c = i2 := by simpa using hcm
      obtain ⟨yy1, yy2, hTO⟩ := hTO
      rcases e' with q | q | q | q | q
      · rw [q]; exact hzl
      · rw [q]; exact Heap.lt_size hTI
      · rw [q]; exact Heap.lt_size hTO
      · rw [q]; obtain ⟨_, e1, _⟩ := h1.obj; exact Heap.lt_size e1
      · rw [q]; obtain ⟨_, e1, _⟩ := h2.obj; exact Heap.lt_size e1
    rw [upd_ne (Nat.ne_of_lt hlt)]
    exact (hf c hcm).1
  done := by
    intro X hP hw hK hc i pins s σ H E I hf st hg
    subst hP hw hK
    obtain ⟨⟨v, f, hz, hv⟩, hTI, hTO, h1, h2⟩ := st
    obtain ⟨l1, l2, q1, q2, b1, b2, hend⟩ := hg
    obtain ⟨s1, r1, p1, _⟩ := srcX I q1
    have c1 := r1.length
    obtain ⟨s2, r2, p2, _⟩ := srcX I q2
    have c2 := r2.length
    have hh : X.A.in1.handled = none := I.ok.hd hc
    refine zq_pyEnd S (drawsX t1 hh i1 a1 n1 s1.toArray) (drawsX t2 hh i2 a2 n2 s2.toArray) hz hv hTI hTO ⟨h1, p1⟩ ⟨h2, p2⟩ (by simp only [List.size_toArray]; omega) (by simp only [List.size_toArray]; omega) ?_ fun h' tk hk => ⟨rfl, I.turnedL (t' := tk) (ch := [z, TI, TO, i1, i2]) (fun c o hb q =>
      hk c o (fun q' => hb (by simp [q'])) (fun q' => hb (by simp [q'])) (fun q' => hb (by simp [q'])) (fun q' => hb (by simp [q'])) q) hf⟩
    simp only [List.size_toArray]
    omega
  self := fun A i s Q E st h => by
    obtain ⟨⟨v, f, hz, _⟩, _⟩ := st
    exact zq_iter hz h
theorem pi_x2n {X : Cx} {e1 e2 : Expr} {ta : TA} {p pos py : Pos} {y : Str} (hg : Gl X "zip") (hm : X.mg "zip" = none) (ha : PA X [e1, e2] ta)
    (hs : starEach [e1, e2] X.env = (false, eval e1 X.env) :: starEach [e2] X.env := by rfl) (hpl : (backTo pos (starEach [e2] X.env)).any (·.1) = false := by rfl) :
    PI X (.Name y py) (.Call (.Name "zip" p) [e1, e2] [] pos) (iX2 X.K ta) := by
  refine ⟨fun pins s σ H R I h => ?_⟩
  refine Call_ (ld_blt I hg hm PyProof.Rows.boot_zip (PyProof.Rows.callWith_type1 (thn (ha.run pos pins s σ H _ I h) fun us s1 ⟨vs, H1, I1, r1, q1⟩ => ?_) hs hpl))
  obtain ⟨t1, t2, a1, a2, l1, l2, ex, q1, q2, q⟩ := q1
  subst ex
  obtain ⟨u1, u2, rfl, ru1, ru2⟩ := valsX2 r1
  obtain rfl : u1 = Value.ref a1 := ru1
  obtain rfl : u2 = Value.ref a2 := ru2
  obtain ⟨ss1, r1, p1, lt1⟩ := srcX I1 q1
  obtain ⟨o1, B1, b1⟩ := beginsX t1 a1 ss1.toArray
  obtain ⟨ss2, r2, p2, lt2⟩ := srcX I1 q2
  obtain ⟨o2, B2, b2⟩ := beginsX t2 a2 ss2.toArray
  refine zip_begins2 B1 B2 p1 p2 fun h' hz hTI hTO g1 g2 hsz hk => wpAny_pyIter_zip hz ?_
  have I2 : Inv X pins σ H1 { s1 with heap := h' } := I1.kept (t' := s1.toks) hk
  refine ⟨s1.heap.objs.size + 4, [s1.heap.objs.size + 4, s1.heap.objs.size + 2, s1.heap.objs.size + 3, s1.heap.objs.size, s1.heap.objs.size + 1], _, _, H1, rfl, I2, turn_x2n (sepX2 _ _ _ lt1 lt2) (farX _ _ 0 lt1) (farX _ _ 1 lt2), ⟨⟨_, _, hz, .inl rfl⟩, hTI, ⟨_, _, hTO⟩, b1 _ _ g1, b2 _ _ g2⟩, fun c hcm => ?_, q⟩
  have hle : s1.heap.objs.size ≤ c := lo5 hcm
  exact I1.fpOk hle (I1.hok.fresh hle)
end Tw

/-! Powers, sums of powers, common divisors, inverses. -/
namespace Tw
open PySem PySem.Spec PyProof.Rows L2
def geo (t : Int) : Nat → Int
  | 0 => 0
  | n + 1 => geo t n + t ^ n
theorem geo_add (t : Int) (a : Nat) : ∀ b, geo t (a + b) = geo t a + t ^ a * geo t b
  | 0 => by show geo t a = geo t a + t ^ a * 0; grind
  | b + 1 => by
    show geo t (a + b) + t ^ (a + b) = geo t a + t ^ a * (geo t b + t ^ b)
    rw [geo_add t a b, Int.pow_add]
    grind
theorem geo_mul (t : Int) : ∀ n, (t - 1) * geo t n = t ^ n - 1
  | 0 => by rw [Int.pow_zero]; show (t - 1) * 0 = 1 - 1; grind
  | n + 1 => by
    have ih := geo_mul t n
    show (t - 1) * (geo t n + t ^ n) = t ^ (n + 1) - 1
    rw [Int.pow_succ]
    grind
/-- what a rule of n steps is -/
def rsT (t m : Int) (n : Nat) : Int := t ^ n % m
def rsP (t p m : Int) (n : Nat) : Int := p * geo t n % m
theorem rs_T (t m : Int) (a c : Nat) : rsT t m c * rsT t m a % m = rsT t m (a + c) := by
  unfold rsT
  rw [← Int.mul_emod, Int.pow_add, Int.mul_comm]
theorem rs_P (t p m : Int) (a c : Nat) : (rsT t m c * rsP t p m a + rsP t p m c) % m = rsP t p m (a + c) := by
  unfold rsT rsP
  rw [Int.add_emod, Int.emod_emod, ← Int.mul_emod, ← Int.add_emod, Nat.add_comm a c, geo_add]
  congr 1
  grind
theorem rs_rng {t p m : Int} (h : 0 < m) (n : Nat) : (0 ≤ rsT t m n ∧ rsT t m n < m) ∧ 0 ≤ rsP t p m n ∧ rsP t p m n < m := ⟨mod_bd _ h, mod_bd _ h⟩
theorem Rule.rs {t p m : Int} (R : Rule t p m) (n : Nat) : Rule (rsT t m n) (rsP t p m n) m :=
  have h := rs_rng (t := t) (p := p) (show 0 < m by have := R.b1; omega) n
  ⟨R.b1, R.b2, h.1.1, h.1.2, h.2.1, h.2.2⟩
/-- ahead -/
def ahd (t p m : Int) (n : Nat) (x : Int) : Int := (t ^ n * x + p * geo t n) % m
theorem stp_rs (t p m : Int) (n : Nat) (x : Int) : stp (rsT t m n) (rsP t p m n) m x = ahd t p m n x := by
  unfold stp rsT rsP ahd
  rw [Int.add_emod_emod, Int.add_emod, Int.mul_emod, Int.emod_emod, ← Int.mul_emod, ← Int.add_emod]
theorem ahd_rng {t p m : Int} (h : 0 < m) (n : Nat) (x : Int) : 0 ≤ ahd t p m n x ∧ ahd t p m n x < m := mod_bd _ h
/-- the number from which n steps lead to s -/
def Back (t p m : Int) (n : Nat) (s y : Int) : Prop := 0 ≤ y ∧ y < m ∧ ahd t p m n y = s
theorem cop_pow {t m : Int} (h : Int.gcd t m = 1) (n : Nat) : Nat.Coprime m.natAbs (t ^ n).natAbs := by
  rw [Int.natAbs_pow]
  exact (Nat.Coprime.pow_left n (show Nat.Coprime t.natAbs m.natAbs from h)).symm
theorem Back.uniq {t p m : Int} {n : Nat} {s y z : Int} (hc : Int.gcd t m = 1) (h : Back t p m n s y) (k : Back t p m n s z) : y = z := by
  obtain ⟨y0, y1, ye⟩ := h
  obtain ⟨z0, z1, ze⟩ := k
  have e : (t ^ n * y + p * geo t n) % m = (t ^ n * z + p * geo t n) % m := ye.trans ze.symm
  have e2 := Int.emod_eq_emod_iff_emod_sub_eq_zero.mp e
  have e3 : m ∣ t ^ n * (y - z) := by
    have := Int.dvd_of_emod_eq_zero e2
    rw [show t ^ n * (y - z) = t ^ n * y + p * geo t n - (t ^ n * z + p * geo t n) by grind]
    exact this
  have e4 : m.natAbs ∣ (y - z).natAbs := by
    have h1 := Int.natAbs_dvd_natAbs.mpr e3
    rw [Int.natAbs_mul] at h1
    exact Nat.Coprime.dvd_of_dvd_mul_left (cop_pow hc n) h1
  have e5 : (y - z).natAbs = 0 := Nat.eq_zero_of_dvd_of_lt e4 (by omega)
  omega
/-- undone by the inverse -/
theorem back_of {t p m u : Int} (m0 : 0 < m) (hu : t * u % m = 1 % m) (s : Int) (s0 : 0 ≤ s) (s1 : s < m) : ∀ n : Nat, Back t p m n s (ahd u (-u * p % m) m n s) := by
  intro n
  refine ⟨(ahd_rng m0 n s).1, (ahd_rng m0 n s).2, ?_⟩
  obtain ⟨e, he⟩ := Int.dvd_of_emod_eq_zero (Int.emod_eq_emod_iff_emod_sub_eq_zero.mp hu)
  have htu : t * u = m * e + 1 := by omega
  have key : ∀ k : Nat, m ∣ t ^ k * (u ^ k * s + (-u * p) * geo u k) + p * geo t k - s := by
    intro k
    induction k with
    | zero =>
      rw [Int.pow_zero, Int.pow_zero]
      show m ∣ 1 * (1 * s + (-u * p) * 0) + p * 0 - s
      exact ⟨0, by grind⟩
    | succ k ih =>
      obtain ⟨c, hc⟩ := ih
      have g1 : geo u (k + 1) = 1 + u * geo u k := by
        rw [Nat.add_comm, geo_add]
        show 0 + u ^ 0 + u ^ 1 * geo u k = _
        rw [Int.pow_zero, Int.pow_one]
        grind
      have g2 : geo t (k + 1) = geo t k + t ^ k := rfl
      rw [g1, g2, Int.pow_succ, Int.pow_succ]
      generalize u ^ k = U at *
      generalize t ^ k = T at *
      generalize geo u k = G at *
      generalize geo t k = J at *
      refine ⟨c + T * e * (U * s + (-u * p) * G - p), ?_⟩
      have e1 : T * t * (U * u * s + -u * p * (1 + u * G)) + p * (J + T) - s = T * ((t * u) * (U * s + -u * p * G - p) + p) + p * J - s := by grind
      rw [e1, htu]
      have e2 : T * ((m * e + 1) * (U * s + -u * p * G - p) + p) + p * J - s = (T * (U * s + -u * p * G) + p * J - s) + m * (T * e * (U * s + -u * p * G - p)) := by grind
      rw [e2, hc]
      grind
  obtain ⟨c, hc⟩ := key n
  have hy : ∃ b, ahd u (-u * p % m) m n s = (u ^ n * s + (-u * p) * geo u n) + m * b := by
    unfold ahd
    have a1 := Int.mul_ediv_add_emod (u ^ n * s + (-u * p % m) * geo u n) m
    have a2 := Int.mul_ediv_add_emod (-u * p) m
    refine ⟨-((u ^ n * s + (-u * p % m) * geo u n) / m) - (-u * p / m) * geo u n, ?_⟩
    generalize (u ^ n * s + (-u * p % m) * geo u n) / m = d1 at *
    generalize (u ^ n * s + (-u * p % m) * geo u n) % m = d2 at *
    generalize -u * p / m = d3 at *
    generalize -u * p % m = d4 at *
    grind
  obtain ⟨b, hb⟩ := hy
  rw [hb]
  show (t ^ n * (u ^ n * s + -u * p * geo u n + m * b) + p * geo t n) % m = s
  have e3 : t ^ n * (u ^ n * s + -u * p * geo u n + m * b) + p * geo t n = s + m * (c + t ^ n * b) := by grind
  rw [e3, Int.add_mul_emod_self_left]
  exact Int.emod_eq_of_lt s0 s1
/-! ### common divisors -/
theorem gcd_step {x y : Int} (h0 : 0 ≤ x) (h1 : 0 < y) : Int.gcd y (x % y) = Int.gcd x y := by
  obtain ⟨a, rfl⟩ := Int.eq_ofNat_of_zero_le h0
  obtain ⟨b, rfl⟩ := Int.eq_ofNat_of_zero_le (Int.le_of_lt h1)
  show Nat.gcd b ((a : Int) % (b : Int)).natAbs = Nat.gcd a b
  rw [← Int.natCast_emod, Int.natAbs_natCast, Nat.gcd_comm b, ← Nat.gcd_rec, Nat.gcd_comm]
/-! ### powers by squaring -/
theorem sq_pow (t : Int) (n : Nat) : t ^ n = (if n % 2 = 1 then t else 1) * (t * t) ^ (n / 2) := by
  have e : n = 2 * (n / 2) + n % 2 := by omega
  have h2 : (t * t) ^ (n / 2) = t ^ (2 * (n / 2)) := by rw [Int.pow_mul, show t ^ 2 = t * t by rw [Int.pow_succ, Int.pow_one]]
  rw [h2]
  by_cases h : n % 2 = 1
  · rw [if_pos h]
    conv => lhs; rw [e, h, Int.pow_succ]
    exact Int.mul_comm _ _
  · rw [if_neg h, Int.one_mul]
    conv => lhs; rw [e, show n % 2 = 0 by omega, Nat.add_zero]
/-- the law's sum of powers, by a power of the bound times one less -/
theorem shares {t m P : Int} {n : Nat} (m0 : 0 < m) (t2 : 2 ≤ t) (hP : P = t ^ n % (m * (t - 1))) : P % m = t ^ n % m ∧ (P - 1) / (t - 1) % m = geo t n % m := by
  have d1 := Int.mul_ediv_add_emod (t ^ n) (m * (t - 1))
  rw [← hP] at d1
  have g := geo_mul t n
  constructor
  · rw [hP, Int.emod_emod_of_dvd _ ⟨t - 1, rfl⟩]
  · have e : P - 1 = (t - 1) * (geo t n - m * (t ^ n / (m * (t - 1)))) := by
      generalize t ^ n / (m * (t - 1)) = q at *
      grind
    rw [e, Int.mul_ediv_cancel_left _ (by omega)]
    rw [Int.sub_emod, Int.mul_emod_right, Int.sub_zero, Int.emod_emod]
theorem pow_zero_pos {n : Nat} (h : 0 < n) : (0 : Int) ^ n = 0 := by
  obtain ⟨k, rfl⟩ : ∃ k, n = k + 1 := ⟨n - 1, by omega⟩
  rw [Int.pow_succ, Int.mul_zero]
theorem geo_zero : ∀ {n : Nat}, 0 < n → geo 0 n = 1
  | 1, _ => by show (0 : Int) + 0 ^ 0 = 1; rw [Int.pow_zero]; rfl
  | n + 2, _ => by
    show geo 0 (n + 1) + 0 ^ (n + 1) = 1
    rw [geo_zero (Nat.succ_pos n), pow_zero_pos (Nat.succ_pos n)]
    rfl
theorem geo_one : ∀ n : Nat, geo 1 n = n
  | 0 => rfl
  | n + 1 => by
    show geo 1 n + 1 ^ n = ((n + 1 : Nat) : Int)
    rw [geo_one n, Int.one_pow]
    rfl
/-! ### promises -/
def pGcd : V → V → Hp → VK → XK → Prop := fun a b H Q _ => ∃ x y : Int, a = .int x ∧ b = .int y ∧ 0 ≤ x ∧ 0 ≤ y ∧ Q (.int (Int.gcd x y : Nat)) H
def pInv : V → V → Hp → VK → XK → Prop := fun a b H Q _ => ∃ x m : Int, a = .int x ∧ b = .int m ∧ 0 ≤ x ∧ 0 < m ∧ m ≤ 1000000000000 ∧ Int.gcd x m = 1 ∧ ∀ H' v, Same H H' → 0 ≤ v → v < m → x * v % m = 1 % m → Q (.int v) H'
def pChained (K : PySem.W.Frag) : V → V → Hp → VK → XK → Prop := fun a b H Q _ => ∃ (r1 r2 : Addr) (t1 p1 t2 p2 m : Int), a = .ref r1 ∧ b = .ref r2 ∧ SqT K H r1 [.int t1, .int p1, .int m] ∧ SqT K H r2 [.int t2, .int p2, .int m] ∧ Rule t1 p1 m ∧ Rule t2 p2 m ∧
  ∀ H' q, Same H H' → H q = none → H' q = some (.tup [.int (t2 * t1 % m), .int ((t2 * p1 + p2) % m), .int m]) → Q (.ref q) H'
def pRos (K : PySem.W.Frag) : V → V → Hp → VK → XK → Prop := fun a b H Q _ => ∃ (r : Addr) (t p m n : Int), a = .ref r ∧ b = .int n ∧ SqT K H r [.int t, .int p, .int m] ∧ Rule t p m ∧ 0 ≤ n ∧
  ∀ H' q, Same H H' → H' q = some (.tup [.int (rsT t m n.toNat), .int (rsP t p m n.toNat), .int m]) → Q (.ref q) H'
def pRback (K : PySem.W.Frag) (CB : Addr) : V → Hp → VK → XK → Prop := fun a H Q E => ∃ (r : Addr) (t p m : Int), a = .ref r ∧ SqT K H r [.int t, .int p, .int m] ∧ Rule t p m ∧
  (Int.gcd t m = 1 → ∀ H' q u, Same H H' → H q = none → 0 ≤ u → u < m → t * u % m = 1 % m → H' q = some (.tup [.int u, .int (-u * p % m), .int m]) → Q (.ref q) H') ∧ (Int.gcd t m ≠ 1 → E (.ref CB) none H)
def pJump (K : PySem.W.Frag) (CN CB : Addr) : V → V → V → Hp → VK → XK → Prop := fun a b c H Q E => ∃ (r : Addr) (t p m s n : Int), a = .ref r ∧ b = .int s ∧ c = .int n ∧ SqT K H r [.int t, .int p, .int m] ∧ Rule t p m ∧
  (¬ (0 ≤ s ∧ s < m) → Bad CN s H E) ∧ (0 ≤ s ∧ s < m → 0 ≤ n → ∀ H', Same H H' → Q (.int (ahd t p m n.toNat s)) H') ∧
  (0 ≤ s ∧ s < m → n < 0 → Int.gcd t m = 1 → ∀ H' y, Same H H' → Back t p m (-n).toNat s y → Q (.int y) H') ∧ (0 ≤ s ∧ s < m → n < 0 → Int.gcd t m ≠ 1 → E (.ref CB) none H)
end Tw
namespace Tw
open PySem PySem.Spec PyProof.Rows L2
/-- an error without a number: its kind's name alone -/
def pKindO (C : Addr) (nm : Str) : V → Hp → VK → XK → Prop := fun a H Q _ => ∃ e : Addr, a = .ref e ∧ H e = some (exv e (.ref C) none) ∧ ∀ H' p, Same H H' → H p = none → H' p = some (.tup [.str nm]) → Q (.ref p) H'
def pPow : V → V → V → Hp → VK → XK → Prop := fun a b c H Q _ => ∃ x n m : Int, a = .int x ∧ b = .int n ∧ c = .int m ∧ 0 ≤ x ∧ x ≤ 1000000000000 ∧ 0 ≤ n ∧ 0 < m ∧ m ≤ 1000000000000000000000000 ∧ Q (.int (x ^ n.toNat % m)) H
def pShares (K : PySem.W.Frag) : V → V → Hp → VK → XK → Prop := fun a b H Q _ => ∃ (r : Addr) (t p m n : Int), a = .ref r ∧ b = .int n ∧ SqT K H r [.int t, .int p, .int m] ∧ Rule t p m ∧ 0 ≤ n ∧
  ∀ H' q, Same H H' → H q = none → H' q = some (.lst [.int (t ^ n.toNat % m), .int (geo t n.toNat % m)]) → Q (.ref q) H'
def pAhead (K : PySem.W.Frag) : V → V → V → Hp → VK → XK → Prop := fun a b c H Q _ => ∃ (r : Addr) (t p m s n : Int), a = .ref r ∧ b = .int s ∧ c = .int n ∧ SqT K H r [.int t, .int p, .int m] ∧ Rule t p m ∧ 0 ≤ s ∧ s < m ∧ 0 ≤ n ∧ ∀ H', Same H H' → Q (.int (ahd t p m n.toNat s)) H'
theorem ahd_shares (t p m : Int) (n : Nat) (s : Int) : (t ^ n % m * s + geo t n % m * p) % m = ahd t p m n s := by
  unfold ahd
  rw [Int.add_emod, Int.mul_emod, Int.emod_emod, ← Int.mul_emod, Int.mul_emod (geo t n % m), Int.emod_emod, ← Int.mul_emod, ← Int.add_emod, Int.mul_comm (geo t n)]
def pStepsL : V → Hp → VK → XK → Prop := fun a H Q _ => ∃ (d : Addr) (n : Nat), a = .ref d ∧ Deck H d n ∧ n + 5 ≤ 100000000 ∧ ∀ (H' : Hp) (v : Int), But d H H' → Deck H' d (n + 5) → Q (.int v) H'
def pTold3 (K : PySem.W.Frag) : V → V → V → Hp → VK → XK → Prop := fun a b c H Q _ => ∃ (r : Addr) (t p m s n : Int), a = .ref r ∧ b = .int s ∧ c = .int n ∧ SqT K H r [.int t, .int p, .int m] ∧ Rule t p m ∧
  (¬ (0 ≤ s ∧ s < m) → ∀ H' q, Same H H' → H q = none → H' q = some (.tup [.str "number", .int s]) → Q (.ref q) H') ∧
  (0 ≤ s ∧ s < m → 0 ≤ n → ∀ H' q, Same H H' → H q = none → H' q = some (.lst [.int (ahd t p m n.toNat s)]) → Q (.ref q) H') ∧
  (0 ≤ s ∧ s < m → n < 0 → Int.gcd t m = 1 → ∀ H' q y, Same H H' → H q = none → Back t p m (-n).toNat s y → H' q = some (.lst [.int y]) → Q (.ref q) H') ∧
  (0 ≤ s ∧ s < m → n < 0 → Int.gcd t m ≠ 1 → ∀ H' q, Same H H' → H q = none → H' q = some (.tup [.str "back"]) → Q (.ref q) H')
def pRight3 (K : PySem.W.Frag) : V → V → V → Hp → VK → XK → Prop := fun a b c H Q _ => ∃ (r : Addr) (t p m s n : Int), a = .ref r ∧ b = .int s ∧ c = .int n ∧ SqT K H r [.int t, .int p, .int m] ∧ Rule t p m ∧ 0 ≤ s ∧ s < m ∧ ∀ H', Same H H' → Q (.bl true) H'
theorem shp_s {x : Str} (h : PyData.canLay0 (.str x) = true) : SeqAt.shaped (.tuple [.str x]) = true := by
  show (PyData.canLay0 (.tuple [.str x]) && decide (PyData.depth (.tuple [.str x]) ≤ 64)) = true
  simp [PyData.canLay0, PyData.canLayAll0] at h ⊢
  exact ⟨h, of_decide_eq_true rfl⟩
theorem shp_back : SeqAt.shaped (.tuple [.str "back"]) = true := shp_s (by decide +kernel)
end Tw
namespace Tw
theorem pow_em (a m : Int) : ∀ k : Nat, (a % m) ^ k % m = a ^ k % m
  | 0 => by rw [Int.pow_zero, Int.pow_zero]
  | k + 1 => by rw [Int.pow_succ, Int.pow_succ, Int.mul_emod, pow_em a m k, Int.emod_emod, ← Int.mul_emod]
end Tw

/-! What stands before a number. -/
namespace Tw
open PySem PySem.Spec PyProof.Rows L2
/-- the least number whose next one is n -/
def Bef (t p m n x : Int) : Prop := 0 ≤ x ∧ x < m / (Int.gcd t m : Nat) ∧ (t * x + p) % m = n
theorem gcd_pos {t m : Int} (m0 : 0 < m) : 0 < (Int.gcd t m : Int) := by
  have : Int.gcd t m ≠ 0 := fun z => by
    have := (Int.gcd_eq_zero_iff.mp z).2
    omega
  omega
theorem gcd_parts {t m : Int} (m0 : 0 < m) : t = (Int.gcd t m : Nat) * (t / (Int.gcd t m : Nat)) ∧ m = (Int.gcd t m : Nat) * (m / (Int.gcd t m : Nat)) ∧ 0 < m / (Int.gcd t m : Nat) ∧ Int.gcd (t / (Int.gcd t m : Nat)) (m / (Int.gcd t m : Nat)) = 1 := by
  have g0 := gcd_pos (t := t) m0
  have d1 : ((Int.gcd t m : Nat) : Int) ∣ t := Int.gcd_dvd_left ..
  have d2 : ((Int.gcd t m : Nat) : Int) ∣ m := Int.gcd_dvd_right ..
  have e1 := Int.mul_ediv_cancel' d1
  have e2 := Int.mul_ediv_cancel' d2
  refine ⟨e1.symm, e2.symm, Int.ediv_pos_of_pos_of_dvd m0 (by omega) d2, ?_⟩
  have := Int.gcd_ediv_gcd_ediv_gcd (i := t) (j := m) (by omega)
  exact this
theorem bef_uniq {t p m n x y : Int} (m0 : 0 < m) (h : Bef t p m n x) (k : Bef t p m n y) : x = y := by
  obtain ⟨x0, x1, xe⟩ := h
  obtain ⟨y0, y1, ye⟩ := k
  obtain ⟨p1, p2, p3, p4⟩ := gcd_parts (t := t) m0
  have g0 := gcd_pos (t := t) m0
  generalize eg : ((Int.gcd t m : Nat) : Int) = g at *
  generalize et : t / g = t' at *
  generalize em : m / g = m' at *
  have e := Int.dvd_of_emod_eq_zero (Int.emod_eq_emod_iff_emod_sub_eq_zero.mp (xe.trans ye.symm))
  have e2 : g * m' ∣ g * (t' * (x - y)) := by
    rw [← p2, show g * (t' * (x - y)) = t * x + p - (t * y + p) by rw [p1]; grind]
    exact e
  have e3 : m' ∣ t' * (x - y) := Int.dvd_of_mul_dvd_mul_left (by omega) e2
  have e4 : m'.natAbs ∣ (x - y).natAbs := by
    have h1 := Int.natAbs_dvd_natAbs.mpr e3
    rw [Int.natAbs_mul] at h1
    exact Nat.Coprime.dvd_of_dvd_mul_left (show Nat.Coprime m'.natAbs t'.natAbs from Nat.Coprime.symm p4) h1
  have e5 : (x - y).natAbs = 0 := Nat.eq_zero_of_dvd_of_lt e4 (by omega)
  omega
/-- made by the inverse -/
theorem bef_of {t p m n v : Int} (m0 : 0 < m) (n0 : 0 ≤ n) (n1 : n < m) (hd : (n - p) % (Int.gcd t m : Nat) = 0) (hv : (t / (Int.gcd t m : Nat)) * v % (m / (Int.gcd t m : Nat)) = 1 % (m / (Int.gcd t m : Nat))) :
    Bef t p m n ((n - p) / (Int.gcd t m : Nat) * v % (m / (Int.gcd t m : Nat))) := by
  obtain ⟨p1, p2, p3, p4⟩ := gcd_parts (t := t) m0
  have g0 := gcd_pos (t := t) m0
  have c1 := Int.mul_ediv_cancel' (Int.dvd_of_emod_eq_zero hd)
  unfold Bef
  generalize ((Int.gcd t m : Nat) : Int) = g at *
  generalize t / g = t' at *
  generalize m / g = m' at *
  generalize (n - p) / g = c at *
  have xr := mod_bd (c * v) p3
  refine ⟨xr.1, xr.2, ?_⟩
  obtain ⟨e, he⟩ := Int.dvd_of_emod_eq_zero (Int.emod_eq_emod_iff_emod_sub_eq_zero.mp hv)
  have a1 := Int.mul_ediv_add_emod (c * v) m'
  generalize c * v / m' = d1 at *
  generalize c * v % m' = x at *
  have e1 : t * x + p = n + m * (c * e - t' * d1) := by
    have h1 : t' * v = 1 + m' * e := by omega
    have h2 : x = c * v - m' * d1 := by omega
    rw [h2, p1, p2]
    have h3 : g * t' * (c * v - m' * d1) + p = g * c * (t' * v) - g * t' * m' * d1 + p := by grind
    rw [h3, h1]
    have h4 : g * c * (1 + m' * e) - g * t' * m' * d1 + p = g * c + p + g * m' * (c * e - t' * d1) := by grind
    rw [h4, c1]
    omega
  rw [e1, Int.add_mul_emod_self_left]
  exact Int.emod_eq_of_lt n0 n1
theorem no_bef {t p m n x : Int} (m0 : 0 < m) (hd : (n - p) % (Int.gcd t m : Nat) ≠ 0) : (t * x + p - n) % m ≠ 0 := by
  intro h
  apply hd
  obtain ⟨c, hc⟩ := Int.dvd_of_emod_eq_zero h
  obtain ⟨p1, p2, p3, p4⟩ := gcd_parts (t := t) m0
  refine Int.emod_eq_zero_of_dvd ⟨t / (Int.gcd t m : Nat) * x - m / (Int.gcd t m : Nat) * c, ?_⟩
  generalize ((Int.gcd t m : Nat) : Int) = g at *
  generalize t / g = t' at *
  generalize m / g = m' at *
  subst p1
  grind
/-- which numbers lead to n -/
theorem bef_iff {t p m n x y : Int} (m0 : 0 < m) (n0 : 0 ≤ n) (n1 : n < m) (hx : Bef t p m n x) : (t * y + p - n) % m = 0 ↔ y % (m / (Int.gcd t m : Nat)) = x := by
  obtain ⟨x0, x1, xe⟩ := hx
  obtain ⟨p1, p2, p3, p4⟩ := gcd_parts (t := t) m0
  have g0 := gcd_pos (t := t) m0
  generalize eg : ((Int.gcd t m : Nat) : Int) = g at *
  generalize et : t / g = t' at *
  generalize em : m / g = m' at *
  have xe2 : m ∣ t * x + p - n := Int.dvd_of_emod_eq_zero (by
    rw [← Int.emod_eq_emod_iff_emod_sub_eq_zero, xe]
    exact (Int.emod_eq_of_lt n0 n1).symm)
  constructor
  · intro h
    have e := Int.dvd_sub (Int.dvd_of_emod_eq_zero h) xe2
    have e2 : g * m' ∣ g * (t' * (y - x)) := by
      rw [← p2, show g * (t' * (y - x)) = t * y + p - n - (t * x + p - n) by rw [p1]; grind]
      exact e
    have e3 : m' ∣ t' * (y - x) := Int.dvd_of_mul_dvd_mul_left (by omega) e2
    have e4 : m' ∣ y - x := by
      refine Int.natAbs_dvd_natAbs.mp ?_
      have h1 := Int.natAbs_dvd_natAbs.mpr e3
      rw [Int.natAbs_mul] at h1
      exact Nat.Coprime.dvd_of_dvd_mul_left (show Nat.Coprime m'.natAbs t'.natAbs from Nat.Coprime.symm p4) h1
    have e5 : y % m' = x % m' := Int.emod_eq_emod_iff_emod_sub_eq_zero.mpr (Int.emod_eq_zero_of_dvd e4)
    rw [e5]
    exact Int.emod_eq_of_lt x0 x1
  · intro h
    have a1 := Int.mul_ediv_add_emod y m'
    rw [h] at a1
    obtain ⟨c, hc⟩ := xe2
    refine Int.emod_eq_zero_of_dvd ⟨c + t' * (y / m'), ?_⟩
    generalize y / m' = d at *
    subst a1
    have : t * (m' * d + x) + p - n = (t * x + p - n) + t * m' * d := by grind
    rw [this, hc]
    conv => lhs; rhs; rw [p1]
    have h2 : g * t' * m' * d = (g * m') * (t' * d) := by grind
    rw [h2, ← p2]
    grind
/-- the numbers of a range with a given rest -/
theorem filter_eq_range (x : Nat) : ∀ m : Nat, (List.range m).filter (fun i => decide (i = x)) = if x < m then [x] else []
  | 0 => by simp
  | m + 1 => by
    rw [List.range_succ, List.filter_append, filter_eq_range x m]
    by_cases h : x < m
    · rw [if_pos h, if_pos (by omega)]
      simp
      omega
    · rw [if_neg h]
      by_cases h2 : m = x
      · subst h2
        simp
      · rw [if_neg (by omega)]
        simp [h2]
theorem filter_rest {m x : Nat} (hx : x < m) : ∀ g : Nat, (List.range (g * m)).filter (fun i => decide (i % m = x)) = (List.range g).map fun k => k * m + x
  | 0 => by simp
  | g + 1 => by
    rw [Nat.add_mul, Nat.one_mul, List.range_add, List.filter_append, filter_rest hx g, List.range_succ, List.map_append]
    congr 1
    rw [List.filter_map]
    have : ((fun i => decide (i % m = x)) ∘ fun j => g * m + j) = fun j => decide (j % m = x) := by
      funext j
      simp [Nat.mul_add_mod_self_right]
    rw [this]
    have h2 : (List.range m).filter (fun j => decide (j % m = x)) = (List.range m).filter (fun j => decide (j = x)) := by
      apply List.filter_congr
      intro j hj
      rw [Nat.mod_eq_of_lt (List.mem_range.mp hj)]
    rw [h2, filter_eq_range, if_pos hx]
    rfl
def pBefore (K : PySem.W.Frag) (CN : Addr) : V → V → Hp → VK → XK → Prop := fun a b H Q E => ∃ (r : Addr) (t p m n : Int), a = .ref r ∧ b = .int n ∧ SqT K H r [.int t, .int p, .int m] ∧ Rule t p m ∧ (¬ (0 ≤ n ∧ n < m) → Bad CN n H E) ∧
  (0 ≤ n ∧ n < m → (n - p) % (Int.gcd t m : Nat) ≠ 0 → ∀ H' q, Same H H' → H q = none → H' q = some (.tup [.int 0, .non]) → Q (.ref q) H') ∧
  (0 ≤ n ∧ n < m → (n - p) % (Int.gcd t m : Nat) = 0 → ∀ H' q x, Same H H' → H q = none → Bef t p m n x → H' q = some (.tup [.int (Int.gcd t m : Nat), .int x]) → Q (.ref q) H')
end Tw

/-! Seeds: what is drawn of them; a bound, a rule, a row. -/
namespace Tw
open PySem PySem.Spec PyProof.Rows L2

/-- a seed: what is left of a great cell, whether it is one, how many were drawn, the mixed cell -/
def Seed (H : Hp) (d : Addr) (n : Nat) : Prop := ∃ r f k c : Int, H d = some (.lst [.int r, .int f, .int k, .int c]) ∧ 0 ≤ r ∧ 0 ≤ k ∧ k ≤ (n : Int) ∧ 0 ≤ c ∧ c < 2000000000
theorem Seed.mono {H : Hp} {d : Addr} {n m : Nat} (h : Seed H d n) (l : n ≤ m) : Seed H d m := by
  obtain ⟨r, f, k, c, a1, a2, a3, a4, a5⟩ := h
  exact ⟨r, f, k, c, a1, a2, a3, by omega, a5⟩
theorem Seed.same {H H' : Hp} {d : Addr} {n : Nat} (h : Seed H d n) (s : Same H H') : Seed H' d n := by
  obtain ⟨r, f, k, c, a1, a2⟩ := h
  exact ⟨r, f, k, c, s _ _ a1, a2⟩
theorem Seed.ne {H : Hp} {d p : Addr} {n : Nat} (h : Seed H d n) (e : H p = none) : p ≠ d := by
  obtain ⟨r, f, k, c, a1, _⟩ := h
  intro z
  rw [z, a1] at e
  cases e
theorem Seed.ne_tup {H : Hp} {d p : Addr} {n : Nat} {xs : List V} (h : Seed H d n) (e : H p = some (.tup xs)) : p ≠ d := by
  obtain ⟨r, f, k, c, a1, _⟩ := h
  intro z
  rw [z, a1] at e
  cases e
theorem Seed.fresh {H H' : Hp} {d p : Addr} {n m : Nat} (h' : Seed H' d m) (b : But d H H') (e : H' p = none) : H p = none := b.free (h'.ne e) e
theorem Seed.nohd {H : Hp} {d : Addr} {n : Nat} (h : Seed H d n) : ∀ c, ¬ At H d c := fun c hc => by
  obtain ⟨r, f, k, cc, a1, _⟩ := h
  obtain ⟨_, e⟩ := hc
  rw [a1] at e
  cases e
/-- a list of ours beside the seed is changed -/
theorem Seed.mut {H : Hp} {d L : Addr} {n : Nat} {o : HO} (h : Seed H d n) (ne : L ≠ d) : Seed (upd H L o) d n := by
  obtain ⟨r, f, k, c, a1, a2⟩ := h
  exact ⟨r, f, k, c, by rw [upd_ne (Ne.symm ne)]; exact a1, a2⟩
/-- a new list at L, changed: the old heap stands -/
theorem but_new {H H' : Hp} {d L : Addr} {o : HO} (b : But d H H') (e : H L = none) : But d H (upd H' L o) := but_mut2 b e
def pFolded (K : PySem.W.Frag) : V → Hp → VK → XK → Prop := fun a H Q _ => ∃ (s : Addr) (xs : List Int), a = .ref s ∧ SqL K H s (xs.map V.int) ∧ xs.length ≤ 63 ∧ ∀ v : Int, Q (.int v) H
def pSeed : V → Hp → VK → XK → Prop := fun a H Q _ => ∃ c : Int, a = .int c ∧ ∀ H' d, Same H H' → H d = none → Seed H' d 0 → Q (.ref d) H'
/-- a draw below m -/
def pDrw (c : Nat) : V → V → Hp → VK → XK → Prop := fun a b H Q _ => ∃ (d : Addr) (n : Nat) (m : Int), a = .ref d ∧ b = .int m ∧ 0 < m ∧ m < 1000000000000000000000000000000000000000000 ∧ Seed H d n ∧ n + c ≤ 100000000 ∧
  ∀ (H' : Hp) (v : Int), But d H H' → Seed H' d (n + c) → 0 ≤ v → v < m → Q (.int v) H'
def pBnd : V → V → Hp → VK → XK → Prop := fun a b H Q _ => ∃ (d : Addr) (n : Nat) (k : Int), a = .ref d ∧ b = .int k ∧ 0 < k ∧ k ≤ 6 ∧ Seed H d n ∧ n + 3 ≤ 100000000 ∧
  ∀ (H' : Hp) (v : Int), But d H H' → Seed H' d (n + 3) → 1 ≤ v → v ≤ 1000000000000 → (k ≤ 3 → v ≤ 2000) → Q (.int v) H'
def pAnyRule : V → V → Hp → VK → XK → Prop := fun a b H Q _ => ∃ (d : Addr) (n : Nat) (m : Int), a = .ref d ∧ b = .int m ∧ 1 ≤ m ∧ m ≤ 1000000000000 ∧ Seed H d n ∧ n + 7 ≤ 100000000 ∧
  ∀ (H' : Hp) (r : Addr) (t p : Int), But d H H' → Seed H' d (n + 7) → H r = none → H' r = some (.tup [.int t, .int p, .int m]) → Rule t p m → Q (.ref r) H'
def pWalkF (K : PySem.W.Frag) : V → V → V → Hp → VK → XK → Prop := fun a b c H Q _ => ∃ (r : Addr) (t p m s n : Int), a = .ref r ∧ b = .int s ∧ c = .int n ∧ SqT K H r [.int t, .int p, .int m] ∧ Rule t p m ∧ 0 ≤ s ∧ s < m ∧ 1 ≤ n ∧ n ≤ 1000 ∧
  ∀ H' l, Same H H' → H l = none → H' l = some (.lst ((orb (stp t p m) n.toNat s).map V.int)) → Q (.ref l) H'
def pRowS : V → V → V → Hp → VK → XK → Prop := fun a b c H Q _ => ∃ (d : Addr) (n : Nat) (m z : Int), a = .ref d ∧ b = .int m ∧ c = .int z ∧ 1 ≤ m ∧ m ≤ 1000000000000 ∧ 6 ≤ z ∧ z ≤ 60 ∧ Seed H d n ∧ n + 1000 ≤ 100000000 ∧
  ∀ (H' : Hp) (r : Addr) (xs : List Int), But d H H' → Seed H' d (n + 1000) → H r = none → H' r = some (.tup (xs.map V.int)) → 2 ≤ xs.length → (xs.length : Int) ≤ z → Rng m xs → Q (.ref r) H'
/-- found is due, both whole -/
def pIsWh : V → V → Hp → VK → XK → Prop := fun a b H Q _ => ∃ x y : Int, a = .int x ∧ b = .int y ∧ Q (.bl (decide (x = y))) H
theorem orb_rng {t p m s : Int} (m0 : 0 < m) (h0 : 0 ≤ s) (h1 : s < m) (n : Nat) : Rng m (orb (stp t p m) n s) := fun x hx => by
  obtain ⟨i, _, rfl⟩ := List.mem_map.mp hx
  exact itr_rng m0 ⟨h0, h1⟩ i
/-- len in a comprehension -/
def rLenS (K : PySem.W.Frag) : List V → Hp → VK → Prop := fun xs H Q => ∃ (p : Addr) (ys : List V), xs = [V.ref p] ∧ (SqL K H p ys ∨ SqT K H p ys) ∧ Q (V.int ys.length) H
theorem call_lenS {X : Cx} : CallR X (.builtin "len") (rLenS X.K) := call_len_seq
theorem yesX {σ : L2.St} {H : Hp} {A B : Hp → Prop} (h : A H) : tYes σ H fun b H3 => if b = true then A H3 else B H3 := by
  show if true = true then A H else B H
  rw [if_pos rfl]
  exact h
theorem ixN_nat {n j : Nat} (h : j < n) : ixN n (j : Int) = some j := by
  unfold ixN
  rw [if_pos (by omega), if_pos (by omega)]
  simp
end Tw

/-! Slices of tuples; gaps; what divides all. -/
namespace Tw
open PySem PySem.Spec PyProof.Rows L2

theorem upd_swap {H : Hp} {a b : Addr} {o u : HO} (h : a ≠ b) : upd (upd H a o) b u = upd (upd H b u) a o := by
  funext c
  by_cases e1 : c = b
  · rw [e1, upd_same, upd_ne (Ne.symm h), upd_same]
  · by_cases e2 : c = a
    · rw [e2, upd_ne h, upd_same, upd_same]
    · rw [upd_ne e1, upd_ne e2, upd_ne e2, upd_ne e1]
theorem cut_all {xs : List V} {lo hi : Option Int} (h : HT.sIx xs.length 0 lo = 0 ∧ HT.sIx xs.length xs.length hi = xs.length) : cutV xs lo hi = xs := by
  unfold cutV
  rw [h.1, h.2]
  simp
theorem cut_drop (xs : List V) (n : Nat) : cutV xs (some (n : Int)) none = xs.drop n := by
  unfold cutV
  rw [HT.sIx_none, HT.sIx_nat]
  by_cases h : n ≤ xs.length
  · rw [Nat.min_eq_left h, List.take_of_length_le (by rw [List.length_drop]; omega)]
  · rw [Nat.min_eq_right (by omega), List.drop_of_length_le (Nat.le_refl _), List.drop_of_length_le (by omega), List.take_nil]
theorem cut_takeI (xs : List Int) (n : Nat) : cutV (xs.map V.int) none (some (n : Int)) = (xs.take n).map V.int := by
  rw [cut_take, List.map_take]
theorem cut_dropI (xs : List Int) (n : Nat) : cutV (xs.map V.int) (some (n : Int)) none = (xs.drop n).map V.int := by
  rw [cut_drop, List.map_drop]
/-- a slice of a tuple: the tuple itself, or a new one -/
def rSlX (K : PySem.W.Frag) : V → Option Int → Option Int → Hp → VK → Prop := fun x lo hi H Q => ∃ (a : Addr) (xs : List V), x = .ref a ∧ SqT K H a xs ∧ ∀ H' p, Same H H' → SqT K H' p (cutV xs lo hi) → Q (.ref p) H'
theorem sl_tupX {X : Cx} : SlR X (rSlX X.K) := by
  intro pins s σ H x v vl vu lo hi sl Q I rx hsl pl pu h
  obtain ⟨a, xs, rfl, hs, q⟩ := h
  refine sl_tupA pins s σ H _ v vl vu lo hi sl Q I rx hsl pl pu ⟨a, xs, rfl, hs, fun e => ?_, fun e p np => ?_⟩
  · refine q H a (fun _ _ z => z) ?_
    rw [cut_all e]
    exact hs
  · exact q _ p (same_new np) (SqT.of upd_same)
theorem But.tupS {K : PySem.W.Frag} {H H' : Hp} {d r : Addr} {n : Nat} {xs : List V} (b : But d H H') (D : Seed H d n) (h : SqT K H r xs) : SqT K H' r xs := by
  obtain ⟨rr, f, k, c, a1, _⟩ := D
  rcases h with (h | ⟨o, h⟩) | h
  · refine .inl (.inl (b _ _ (fun z => ?_) h))
    rw [z, a1] at h
    cases h
  · refine .inl (.inr ⟨o, b _ _ (fun z => ?_) h⟩)
    rw [z, a1] at h
    cases h
  · exact .inr h
/-! ### gaps -/
def gat (xs : List Int) (i : Nat) : Int := xs.getD (i + 1) 0 - xs.getD i 0
def gp (xs : List Int) : List Int := (List.range (xs.length - 1)).map (gat xs)
theorem gp_len (xs : List Int) : (gp xs).length = xs.length - 1 := by unfold gp; rw [List.length_map, List.length_range]
theorem gp_get {xs : List Int} {i : Nat} (h : i < xs.length - 1) : (gp xs)[i]? = some (gat xs i) := by
  unfold gp
  rw [List.getElem?_map, List.getElem?_range h]
  rfl
theorem get_D {xs : List Int} {i : Nat} {v : Int} (h : xs[i]? = some v) : xs.getD i 0 = v := by
  rw [List.getD_eq_getElem?_getD, h]
  rfl
theorem vget {xs : List Int} {i : Nat} {v : V} (h : (xs.map V.int)[i]? = some v) : v = .int (xs.getD i 0) ∧ i < xs.length := by
  rw [List.getElem?_map] at h
  cases e : xs[i]? with
  | none => rw [e] at h; cases h
  | some x =>
    rw [e] at h
    cases h
    exact ⟨by rw [get_D e], (List.getElem?_eq_some_iff.mp e).1⟩
theorem vgetd {xs : List Int} {i k : Nat} {v : V} (h : ((xs.drop k).map V.int)[i]? = some v) : v = .int (xs.getD (k + i) 0) ∧ k + i < xs.length := by
  rw [List.getElem?_map, List.getElem?_drop] at h
  cases e : xs[k + i]? with
  | none => rw [e] at h; cases h
  | some x =>
    rw [e] at h
    cases h
    exact ⟨by rw [get_D e], (List.getElem?_eq_some_iff.mp e).1⟩
theorem gp_D {xs : List Int} {i : Nat} (h : i < xs.length - 1) : (gp xs).getD i 0 = gat xs i := get_D (gp_get h)
def pGapsOf (K : PySem.W.Frag) : V → Hp → VK → XK → Prop := fun a H Q _ => ∃ (r : Addr) (xs : List Int), a = .ref r ∧ SqT K H r (xs.map V.int) ∧ xs.length ≤ 1000 ∧ ∀ H' l, Same H H' → H l = none → H' l = some (.lst ((gp xs).map V.int)) → Q (.ref l) H'
theorem getD_rng {m : Int} {xs : List Int} (m0 : 0 < m) (h : Rng m xs) (i : Nat) : 0 ≤ xs.getD i 0 ∧ xs.getD i 0 < m := by
  by_cases l : i < xs.length
  · rw [get_D (List.getElem?_eq_getElem l)]
    exact h _ (List.getElem_mem l)
  · rw [List.getD_eq_getElem?_getD, List.getElem?_eq_none (by omega)]
    exact ⟨Int.le_refl _, m0⟩
theorem gat_rng {m : Int} {xs : List Int} (m0 : 0 < m) (h : Rng m xs) (i : Nat) : -m < gat xs i ∧ gat xs i < m := by
  have a := getD_rng m0 h i
  have b := getD_rng m0 h (i + 1)
  unfold gat
  omega
/-! ### what divides all -/
def trm (xs : List Int) (i : Nat) : Int := gat xs i * gat xs (i + 2) - gat xs (i + 1) * gat xs (i + 1)
def dvA (xs : List Int) : Nat → Nat
  | 0 => 0
  | k + 1 => Nat.gcd (dvA xs k) (trm xs k).natAbs
theorem dvA_dvd (xs : List Int) (e : Nat) : ∀ k, e ∣ dvA xs k ↔ ∀ i, i < k → e ∣ (trm xs i).natAbs
  | 0 => ⟨fun _ i hi => absurd hi (Nat.not_lt_zero _), fun _ => Nat.dvd_zero e⟩
  | k + 1 => by
    show e ∣ Nat.gcd (dvA xs k) (trm xs k).natAbs ↔ _
    rw [Nat.dvd_gcd_iff, dvA_dvd xs e k]
    constructor
    · rintro ⟨a, b⟩ i hi
      by_cases e1 : i = k
      · rw [e1]; exact b
      · exact a i (by omega)
    · intro h
      exact ⟨fun i hi => h i (by omega), h k (by omega)⟩
/-- all of a list are divided by just what divides n -/
def Dv (ys : List Int) (n : Nat) : Prop := ∀ e : Nat, (∀ y ∈ ys, e ∣ y.natAbs) ↔ e ∣ n
theorem Dv.nil {n : Nat} (h : Dv [] n) : n = 0 := by
  have := (h 0).mp (fun y hy => by cases hy)
  exact Nat.eq_zero_of_zero_dvd this
theorem Dv.one {y : Int} {n : Nat} (h : Dv [y] n) : y.natAbs = n := by
  refine Nat.dvd_antisymm ?_ ?_
  · exact (h _).mp (fun z hz => by rw [List.mem_singleton.mp hz]; exact Nat.dvd_refl _)
  · exact (h n).mpr (Nat.dvd_refl _) y (List.mem_singleton.mpr rfl)
theorem Dv.pos {ys : List Int} {n : Nat} (h : Dv ys n) : Dv (ys.filter (fun y => decide (y > 0))) n ∨ ∃ y ∈ ys, y < 0 := by
  by_cases hy : ∃ y ∈ ys, y < 0
  · exact .inr hy
  · refine .inl fun e => ?_
    rw [← h e]
    constructor
    · intro q y m
      by_cases l : y > 0
      · exact q y (List.mem_filter.mpr ⟨m, by simp [l]⟩)
      · have : y = 0 := by
          have h1 : ¬ y < 0 := fun z => hy ⟨y, m, z⟩
          omega
        rw [this]
        exact Nat.dvd_zero e
    · intro q y m
      exact q y (List.mem_filter.mp m).1
theorem natAbs_mod_dvd {x l : Int} {e : Nat} (hl : e ∣ l.natAbs) : e ∣ (x % l).natAbs ↔ e ∣ x.natAbs := by
  rw [← Int.ofNat_dvd_left, ← Int.ofNat_dvd_left]
  rw [← Int.ofNat_dvd_left] at hl
  have hd : (e : Int) ∣ l * (x / l) := Int.dvd_trans hl (Int.dvd_mul_right _ _)
  have ex := Int.mul_ediv_add_emod x l
  constructor
  · intro h
    rw [← ex]
    exact Int.dvd_add hd h
  · intro h
    have : x % l = x - l * (x / l) := by omega
    rw [this]
    exact Int.dvd_sub h hd
theorem Dv.step {ys zs : List Int} {l : Int} {n : Nat} (h : Dv ys n) (hl : l ∈ ys) (hz : ∀ z, z ∈ zs ↔ z = l ∨ ∃ y ∈ ys, y % l > 0 ∧ z = y % l) (l0 : 0 < l) : Dv zs n := fun e => by
  rw [← h e]
  constructor
  · intro q y m
    have ql := q l ((hz l).mpr (.inl rfl))
    by_cases p : y % l > 0
    · exact (natAbs_mod_dvd ql).mp (q _ ((hz _).mpr (.inr ⟨y, m, p, rfl⟩)))
    · have z : y % l = 0 := by
        have := Int.emod_nonneg y (show l ≠ 0 by omega)
        omega
      refine (natAbs_mod_dvd ql).mp ?_
      rw [z]
      exact Nat.dvd_zero e
  · intro q z m
    rcases (hz z).mp m with rfl | ⟨y, my, p, rfl⟩
    · exact q _ hl
    · exact (natAbs_mod_dvd (q _ hl)).mpr (q _ my)
def pDivAll (K : PySem.W.Frag) : V → Hp → VK → XK → Prop := fun a H Q _ => ∃ (r : Addr) (xs : List Int), a = .ref r ∧ SqT K H r (xs.map V.int) ∧ xs.length ≤ 1000 ∧ Rng 1000000000000000 xs ∧ ∀ H', Same H H' → Q (.int (dvA xs (xs.length - 3) : Nat)) H'
end Tw
namespace Tw
open PySem PySem.Spec PyProof.Rows L2
theorem atD {xs : List Int} {z : Int} {n : Nat} (e : z = (n : Int)) (h : n < xs.length) : atI (xs.map V.int) z = some (.int (xs.getD n 0)) := by
  subst e
  refine atI_nat ?_
  rw [List.getElem?_map, List.getElem?_eq_getElem h, get_D (List.getElem?_eq_getElem h)]
  rfl
def ab (t : Int) : Int := if t < 0 then -t else t
theorem ab_nat (t : Int) : (ab t).natAbs = t.natAbs := by
  unfold ab
  split
  · rw [Int.natAbs_neg]
  · rfl
theorem ab_nonneg (t : Int) : 0 ≤ ab t := by
  unfold ab
  split <;> omega
theorem dv_all (xs : List Int) (k : Nat) : Dv ((List.range k).map fun i => ab (trm xs i)) (dvA xs k) := fun e => by
  rw [dvA_dvd]
  constructor
  · intro h i hi
    have := h _ (List.mem_map.mpr ⟨i, List.mem_range.mpr hi, rfl⟩)
    rw [ab_nat] at this
    exact this
  · intro h y hy
    obtain ⟨i, hi, rfl⟩ := List.mem_map.mp hy
    rw [ab_nat]
    exact h i (List.mem_range.mp hi)
theorem same_butNew {Hb Ha H' : Hp} {d : Addr} (s : Same Hb Ha) (e : Hb d = none) (b : But d Ha H') : Same Hb H' := fun c o h => b c o (ne_of_none h e) (s c o h)
def pDueA (K : PySem.W.Frag) : V → Hp → VK → XK → Prop := fun a H Q _ => ∃ (r : Addr) (xs : List Int), a = .ref r ∧ SqT K H r (xs.map V.int) ∧ xs.length ≤ 60 ∧ Rng 1000000000000000 xs ∧ ∀ H', Same H H' → Q (.int (dvA xs (xs.length - 3) : Nat)) H'
def pAnyRow (K : PySem.W.Frag) : V → Hp → VK → XK → Prop := fun a H Q _ => ∃ (d : Addr) (n : Nat), a = .ref d ∧ Seed H d n ∧ n + 2000 ≤ 100000000 ∧
  ∀ (H' : Hp) (r : Addr) (xs : List Int), But d H H' → Seed H' d (n + 2000) → SqT K H' r (xs.map V.int) → 2 ≤ xs.length → xs.length ≤ 60 → Rng 1000000000000000 xs → Q (.ref r) H'
theorem Rng.mono {m n : Int} {xs : List Int} (h : Rng m xs) (l : m ≤ n) : Rng n xs := fun x hx => ⟨(h x hx).1, Int.lt_of_lt_of_le (h x hx).2 l⟩
theorem Rng.take {m : Int} {xs : List Int} (h : Rng m xs) (k : Nat) : Rng m (xs.take k) := fun x hx => h x (List.mem_of_mem_take hx)
theorem flat_rep (x : Int) : ∀ k : Nat, (List.replicate k [V.int x]).flatten = (List.replicate k x).map V.int
  | 0 => rfl
  | k + 1 => by
    rw [List.replicate_succ, List.flatten_cons, flat_rep x k, List.replicate_succ, List.map_cons]
    rfl
end Tw
namespace Tw
open PySem PySem.Spec PyProof.Rows L2
theorem flt_in {α : Type} {p : α → Bool} {l : List α} {a : α} (h : p a = true) : (l ++ [a]).filter p = l.filter p ++ [a] := by
  rw [List.filter_append, List.filter_cons_of_pos h]
  rfl
theorem flt_out {α : Type} {p : α → Bool} {l : List α} {a : α} (h : ¬ p a = true) : (l ++ [a]).filter p = l.filter p := by
  rw [List.filter_append, List.filter_cons_of_neg h]
  simp
theorem take_snoc {xs : List Int} {i : Nat} (li : i < xs.length) : xs.take (i + 1) = xs.take i ++ [xs.getD i 0] := by
  rw [List.take_succ, List.getElem?_eq_getElem li, get_D (List.getElem?_eq_getElem li)]
  rfl
end Tw
namespace Tw
open PySem PySem.Spec PyProof.Rows L2
theorem nd_len : ∀ (l m : List Int), l.Nodup → (∀ x ∈ l, x ∈ m) → l.length ≤ m.length
  | [], _, _, _ => Nat.zero_le _
  | a :: r, m, nd, h => by
    rw [List.nodup_cons] at nd
    have ha := h a List.mem_cons_self
    have ih := nd_len r (m.erase a) nd.2 (fun x hx => (List.mem_erase_of_ne (fun (e : x = a) => nd.1 (e ▸ hx))).mpr (h x (List.mem_cons_of_mem _ hx)))
    rw [List.length_erase_of_mem ha] at ih
    have : 0 < m.length := List.length_pos_of_mem ha
    simp only [List.length_cons]
    omega
theorem lt_nodup {l : List Int} (h : l.Pairwise (· < ·)) : l.Nodup := by
  rw [List.nodup_iff_pairwise_ne]
  exact h.imp fun {a b} z => by omega
theorem mods_len {zs : List Int} {l : Int} (h : l ∈ zs) : ((zs.map (· % l)).filter (fun y => decide (y > 0))).length < zs.length := by
  have := (List.length_filter_lt_length_iff_exists (l := zs.map (· % l)) (p := fun y : Int => decide (y > 0))).mpr ⟨l % l, List.mem_map.mpr ⟨l, h, rfl⟩, by rw [Int.emod_self]; simp⟩
  rw [List.length_map] at this
  exact this
end Tw

/-! The times that fit: residue classes, narrowed one condition after the other. -/
namespace Tw
open PySem PySem.Spec PyProof.Rows L2

/-- times t fits the first k conditions of a row -/
def FitU (m : Int) (xs : List Int) (k : Nat) (t : Int) : Prop := ∀ i, i < k → m ∣ t * gat xs i - gat xs (i + 1)
/-- o tells all that fit -/
def FitR (m : Int) (xs : List Int) (k : Nat) : Option (Int × Int) → Prop
  | some (l, s) => 0 < s ∧ s ∣ m ∧ 0 ≤ l ∧ l < s ∧ ∀ t, FitU m xs k t ↔ s ∣ t - l
  | none => ∀ t, ¬ FitU m xs k t
theorem fitU_zero (m : Int) (xs : List Int) (t : Int) : FitU m xs 0 t := fun i hi => absurd hi (Nat.not_lt_zero _)
theorem fitU_succ {m : Int} {xs : List Int} {k : Nat} {t : Int} : FitU m xs (k + 1) t ↔ FitU m xs k t ∧ m ∣ t * gat xs k - gat xs (k + 1) := by
  constructor
  · intro h
    exact ⟨fun i hi => h i (by omega), h k (by omega)⟩
  · rintro ⟨a, b⟩ i hi
    by_cases e : i = k
    · rw [e]; exact b
    · exact a i (by omega)
theorem fitU_mono {m : Int} {xs : List Int} {j k : Nat} {t : Int} (h : FitU m xs k t) (l : j ≤ k) : FitU m xs j t := fun i hi => h i (by omega)
theorem fitR_zero {m : Int} (m0 : 0 < m) (xs : List Int) : FitR m xs 0 (some (0, 1)) := ⟨by decide, Int.one_dvd m, by decide, by decide, fun t => ⟨fun _ => Int.one_dvd _, fun _ => fitU_zero m xs t⟩⟩
theorem FitR.uniq {m : Int} {xs : List Int} {k : Nat} {a b : Option (Int × Int)} (ha : FitR m xs k a) (hb : FitR m xs k b) : a = b := by
  cases a with
  | none =>
    cases b with
    | none => rfl
    | some p =>
      obtain ⟨l, s⟩ := p
      obtain ⟨_, _, _, _, h⟩ := hb
      exact absurd ((h l).mpr (by rw [Int.sub_self]; exact Int.dvd_zero s)) (ha l)
  | some p =>
    obtain ⟨l, s⟩ := p
    obtain ⟨s0, _, l0, l1, h⟩ := ha
    cases b with
    | none => exact absurd ((h l).mpr (by rw [Int.sub_self]; exact Int.dvd_zero s)) (hb l)
    | some q =>
      obtain ⟨l', s'⟩ := q
      obtain ⟨s0', _, l0', l1', h'⟩ := hb
      have e1 : s' ∣ l - l' := (h' l).mp ((h l).mpr (by rw [Int.sub_self]; exact Int.dvd_zero s))
      have e2 : s' ∣ l + s - l' := (h' (l + s)).mp ((h _).mpr (by rw [show l + s - l = s by omega]; exact Int.dvd_refl s))
      have e3 : s ∣ l' - l := (h l').mp ((h' l').mpr (by rw [Int.sub_self]; exact Int.dvd_zero s'))
      have e4 : s ∣ l' + s' - l := (h (l' + s')).mp ((h' _).mpr (by rw [show l' + s' - l' = s' by omega]; exact Int.dvd_refl s'))
      have d1 : s' ∣ s := by
        have := Int.dvd_sub e2 e1
        rw [show l + s - l' - (l - l') = s by omega] at this
        exact this
      have d2 : s ∣ s' := by
        have := Int.dvd_sub e4 e3
        rw [show l' + s' - l - (l' - l) = s' by omega] at this
        exact this
      have es : s = s' := Int.dvd_antisymm (by omega) (by omega) d2 d1
      subst es
      have el : l = l' := by
        have h2 : l % s = l' % s := Int.emod_eq_emod_iff_emod_sub_eq_zero.mpr (Int.emod_eq_zero_of_dvd e1)
        rw [Int.emod_eq_of_lt l0 l1, Int.emod_eq_of_lt l0' l1'] at h2
        exact h2
      rw [el]
/-- conditions by a count: t = l + c * s -/
theorem cond_count {m l s g h c : Int} : m ∣ (l + c * s) * g - h ↔ ((s * g % m) * c + l * g % m - h % m) % m = 0 := by
  have e : (s * g % m) * c + l * g % m - h % m = ((l + c * s) * g - h) - m * ((s * g / m) * c + l * g / m - h / m) := by
    have h1 := Int.mul_ediv_add_emod (s * g) m
    have h2 := Int.mul_ediv_add_emod (l * g) m
    have h3 := Int.mul_ediv_add_emod h m
    have e1 : s * g % m = s * g - m * (s * g / m) := by omega
    have e2 : l * g % m = l * g - m * (l * g / m) := by omega
    have e3 : h % m = h - m * (h / m) := by omega
    rw [e1, e2, e3]
    grind
  rw [e, Int.sub_mul_emod_self_left]
  exact Int.dvd_iff_emod_eq_zero
theorem fit_none {m l s : Int} {xs : List Int} {k : Nat} (m0 : 0 < m) (F : FitR m xs k (some (l, s))) (h : (gat xs (k + 1) % m - l * gat xs k % m) % (Int.gcd (s * gat xs k % m) m : Nat) ≠ 0) : FitR m xs (k + 1) none := by
  obtain ⟨s0, sd, l0, l1, hF⟩ := F
  intro t ht
  obtain ⟨a, b⟩ := fitU_succ.mp ht
  obtain ⟨c, hc⟩ := (hF t).mp a
  have et : t = l + c * s := by rw [Int.mul_comm c s, ← hc]; omega
  rw [et] at b
  exact no_bef (x := c) m0 h (cond_count.mp b)
theorem fit_some {m l s x : Int} {xs : List Int} {k : Nat} (m0 : 0 < m) (F : FitR m xs k (some (l, s))) (B : Bef (s * gat xs k % m) (l * gat xs k % m) m (gat xs (k + 1) % m) x) : FitR m xs (k + 1) (some (l + x * s, m / (Int.gcd (s * gat xs k % m) m : Nat) * s)) := by
  obtain ⟨s0, sd, l0, l1, hF⟩ := F
  have nr := mod_bd (gat xs (k + 1)) m0
  have iff := fun y => bef_iff (y := y) m0 nr.1 nr.2 B
  obtain ⟨e1, e2, e3, e4⟩ := gcd_parts (t := s * gat xs k % m) m0
  obtain ⟨x0, x1, _⟩ := B
  have gd : s ∣ (Int.gcd (s * gat xs k % m) m : Nat) := by
    refine Int.dvd_coe_gcd ?_ sd
    have h1 := Int.mul_ediv_add_emod (s * gat xs k) m
    have e : s * gat xs k % m = s * gat xs k - m * (s * gat xs k / m) := by omega
    rw [e]
    exact Int.dvd_sub (Int.dvd_mul_right _ _) (Int.dvd_trans sd (Int.dvd_mul_right _ _))
  generalize (Int.gcd (s * gat xs k % m) m : Nat) = d at *
  generalize hap : m / (d : Int) = a at *
  refine ⟨Int.mul_pos e3 s0, ?_, ?_, ?_, fun t => ?_⟩
  · obtain ⟨q, hq⟩ := gd
    rw [e2, hq]
    exact ⟨q, by grind⟩
  · have := Int.mul_nonneg x0 (Int.le_of_lt s0)
    omega
  · have h1 : (x + 1) * s ≤ a * s := Int.mul_le_mul_of_nonneg_right (by omega) (by omega)
    have h2 : (x + 1) * s = x * s + s := by grind
    omega
  · rw [fitU_succ, hF t]
    constructor
    · rintro ⟨⟨c, hc⟩, h⟩
      have et : t = l + c * s := by rw [Int.mul_comm c s, ← hc]; omega
      subst et
      have hx := (iff c).mp (cond_count.mp h)
      have hd := Int.mul_ediv_add_emod c a
      rw [hx] at hd
      exact ⟨c / a, by rw [← hd]; grind⟩
    · rintro ⟨q, hq⟩
      have et : t = l + (x + a * q) * s := by grind
      refine ⟨⟨x + a * q, by rw [et]; grind⟩, ?_⟩
      rw [et]
      refine cond_count.mpr ((iff _).mpr ?_)
      rw [Int.add_mul_emod_self_left, Int.emod_eq_of_lt x0 x1]
end Tw

/-! Quotients by any number; the fit by going from remainder to remainder; promises of the fits. -/
namespace Tw
open PySem PySem.Spec PyProof.Rows L2

theorem op_fdivZ {X : Cx} : OpR X (binaryOp .FloorDiv) (rI (fun _ j => j ≠ 0 ∧ Big j) fun i j => .int (i.fdiv j)) := opI fun i j _ _ _ _ _ hc q =>
  floordiv_int hc.1 q (.inl (PyProof.noPylong_of_log2 (Nat.lt_of_lt_of_le (PySem.Flt.log2_lt_of (by decide) hc.2.abs) (by decide))))
theorem fd_bd {n o : Int} (h : o ≠ 0) : (n - n.fdiv o * o).natAbs < o.natAbs := by
  by_cases p : 0 < o
  · rw [Int.fdiv_eq_ediv_of_nonneg n (by omega)]
    have h1 := Int.mul_ediv_add_emod n o
    have h2 := mod_bd n p
    have e : n - n / o * o = n % o := by rw [Int.mul_comm]; omega
    rw [e]
    omega
  · rw [← Int.neg_fdiv_neg, Int.fdiv_eq_ediv_of_nonneg (-n) (by omega)]
    have h1 := Int.mul_ediv_add_emod (-n) (-o)
    have h2 := mod_bd (-n) (show 0 < -o by omega)
    have e : n - -n / -o * o = -(-n % -o) := by
      have : -o * (-n / -o) = -(-n / -o * o) := by grind
      omega
    rw [e]
    omega
theorem fd_abs {n o : Int} (h : o ≠ 0) : (n.fdiv o).natAbs ≤ n.natAbs + o.natAbs := by
  have b := fd_bd (n := n) h
  have h1 : (n.fdiv o * o).natAbs ≤ n.natAbs + o.natAbs := by omega
  rw [Int.natAbs_mul] at h1
  have h2 : (n.fdiv o).natAbs * 1 ≤ (n.fdiv o).natAbs * o.natAbs := Nat.mul_le_mul_left _ (by omega)
  omega
theorem gcd_ext {a b a' b' : Int} (h : ∀ d : Int, (d ∣ a ∧ d ∣ b) ↔ (d ∣ a' ∧ d ∣ b')) : Int.gcd a b = Int.gcd a' b' := by
  refine Nat.dvd_antisymm ?_ ?_
  · have := (h (Int.gcd a b : Nat)).mp ⟨Int.gcd_dvd_left .., Int.gcd_dvd_right ..⟩
    exact Int.ofNat_dvd.mp (Int.dvd_coe_gcd this.1 this.2)
  · have := (h (Int.gcd a' b' : Nat)).mpr ⟨Int.gcd_dvd_left .., Int.gcd_dvd_right ..⟩
    exact Int.ofNat_dvd.mp (Int.dvd_coe_gcd this.1 this.2)
theorem gcd_euc (n o q : Int) : Int.gcd o (n - q * o) = Int.gcd n o := gcd_ext fun d => by
  constructor
  · rintro ⟨a, b⟩
    have := Int.dvd_add b (Int.dvd_trans a (Int.dvd_mul_left q o))
    rw [show n - q * o + q * o = n by omega] at this
    exact ⟨this, a⟩
  · rintro ⟨a, b⟩
    exact ⟨b, Int.dvd_sub a (Int.dvd_trans b (Int.dvd_mul_left q o))⟩
theorem euc_sol {m t n o d e q : Int} : (m ∣ t * n - d ∧ m ∣ t * o - e) ↔ (m ∣ t * o - e ∧ m ∣ t * (n - q * o) - (d - q * e) % m) := by
  have h1 := Int.mul_ediv_add_emod (d - q * e) m
  have e1 : t * (n - q * o) - (d - q * e) % m = (t * n - d) - q * (t * o - e) + m * ((d - q * e) / m) := by grind
  have hm : m ∣ m * ((d - q * e) / m) := Int.dvd_mul_right _ _
  constructor
  · rintro ⟨a, b⟩
    refine ⟨b, ?_⟩
    rw [e1]
    exact Int.dvd_add (Int.dvd_sub a (Int.dvd_trans b (Int.dvd_mul_left _ _))) hm
  · rintro ⟨b, a⟩
    refine ⟨?_, b⟩
    rw [e1] at a
    have h2 := Int.dvd_add (Int.dvd_sub a hm) (Int.dvd_trans b (Int.dvd_mul_left q (t * o - e)))
    rw [show t * n - d - q * (t * o - e) + m * ((d - q * e) / m) - m * ((d - q * e) / m) + q * (t * o - e) = t * n - d by omega] at h2
    exact h2
/-- one condition for all -/
structure OneC (m : Int) (xs : List Int) (k : Nat) (n d : Int) : Prop where
  nz : n ≠ 0
  dv : n ∣ m
  sol : ∀ t, FitU m xs k t ↔ m ∣ t * n - d
theorem oneC_zero {m : Int} (m0 : 0 < m) (xs : List Int) : OneC m xs 0 m 0 := ⟨by omega, Int.dvd_refl m, fun t => ⟨fun _ => by rw [Int.sub_zero]; exact Int.dvd_mul_left t m, fun _ => fitU_zero m xs t⟩⟩
theorem OneC.none {m n d : Int} {xs : List Int} {k K : Nat} (h : OneC m xs k n d) (hk : k ≤ K) (nd : d % n ≠ 0) : FitR m xs K Option.none := fun t ht => by
  have h1 := (h.sol t).mp (fitU_mono ht hk)
  have h2 := Int.dvd_trans h.dv h1
  refine nd (Int.emod_eq_zero_of_dvd ?_)
  have h3 := Int.dvd_sub (Int.dvd_mul_left t n) h2
  rw [show t * n - (t * n - d) = d by omega] at h3
  exact h3
theorem OneC.some {m n d : Int} {xs : List Int} {k : Nat} (m0 : 0 < m) (n0 : 0 < n) (h : OneC m xs k n d) (hd : d % n = 0) : FitR m xs k (Option.some (d / n % (m / n), m / n)) := by
  obtain ⟨s, hs⟩ := h.dv
  have es : m / n = s := by rw [hs]; exact Int.mul_ediv_cancel_left _ (by omega)
  have s0 : 0 < s := by
    by_cases z : 0 < s
    · exact z
    · have := Int.mul_nonneg (show 0 ≤ n by omega) (show 0 ≤ -s by omega)
      have e : n * -s = -(n * s) := by grind
      omega
  have ed : d = n * (d / n) := by have := Int.mul_ediv_add_emod d n; omega
  rw [es]
  have bs := mod_bd (d / n) s0
  refine ⟨s0, ⟨n, by rw [hs, Int.mul_comm]⟩, bs.1, bs.2, fun t => ?_⟩
  rw [h.sol t]
  have e1 : t * n - d = n * (t - d / n) := by
    have : n * (t - d / n) = t * n - n * (d / n) := by grind
    omega
  rw [e1, hs, Int.mul_dvd_mul_iff_left (by omega)]
  have h1 := Int.mul_ediv_add_emod (d / n) s
  have e2 : t - d / n % s = (t - d / n) + s * (d / n / s) := by omega
  rw [e2]
  constructor
  · intro h
    exact Int.dvd_add h (Int.dvd_mul_right _ _)
  · intro h
    have := Int.dvd_sub h (Int.dvd_mul_right s (d / n / s))
    rw [show t - d / n + s * (d / n / s) - s * (d / n / s) = t - d / n by omega] at this
    exact this
theorem OneC.neg {m n d : Int} {xs : List Int} {k : Nat} (h : OneC m xs k n d) : OneC m xs k (0 - n) (0 - d) := by
  refine ⟨by have := h.nz; omega, ?_, fun t => ?_⟩
  · rw [Int.zero_sub]
    exact Int.neg_dvd.mpr h.dv
  · rw [h.sol t, show t * (0 - n) - (0 - d) = -(t * n - d) by grind]
    exact Int.dvd_neg.symm
/-- what a fit is told by -/
def FitV (m : Int) (xs : List Int) (j : Nat) (H : Hp) (v : V) : Prop := (v = .non ∧ FitR m xs j none) ∨ ∃ (q : Addr) (l s : Int), v = .ref q ∧ H q = some (.tup [.int l, .int s]) ∧ FitR m xs j (some (l, s))
theorem FitV.same {m : Int} {xs : List Int} {j : Nat} {H H' : Hp} {v : V} (h : FitV m xs j H v) (s : Same H H') : FitV m xs j H' v := by
  rcases h with h | ⟨q, l, st, e, hq, r⟩
  · exact .inl h
  · exact .inr ⟨q, l, st, e, s _ _ hq, r⟩
theorem fitR_none_mono {m : Int} {xs : List Int} {j k : Nat} (h : FitR m xs j none) (l : j ≤ k) : FitR m xs k none := fun t ht => h t (fitU_mono ht l)
def pFitL (K : PySem.W.Frag) : V → V → Hp → VK → XK → Prop := fun a b H Q _ => ∃ (r : Addr) (xs : List Int) (m : Int), a = .ref r ∧ b = .int m ∧ SqT K H r (xs.map V.int) ∧ 1 ≤ m ∧ m ≤ 1000000000000 ∧ Rng m xs ∧ xs.length ≤ 1000 ∧
  ∀ H' v, Same H H' → FitV m xs (xs.length - 2) H' v → (∀ q, v = .ref q → H q = none) → Q v H'
def pNarrow : V → V → V → V → Hp → VK → XK → Prop := fun a b c e H Q _ => ∃ (v : V) (xs : List Int) (k : Nat) (m : Int), a = v ∧ b = .int (gat xs k) ∧ c = .int (gat xs (k + 1)) ∧ e = .int m ∧ FitV m xs k H v ∧ 1 ≤ m ∧ m ≤ 1000000000000 ∧ Rng m xs ∧
  ∀ H' v', Same H H' → FitV m xs (k + 1) H' v' → (∀ q, v' = .ref q → H q = none) → Q v' H'
/-- the first number that is none of the bound's -/
def FirstBad (m : Int) (xs : List Int) (i : Nat) : Prop := i < xs.length ∧ ¬ (0 ≤ xs.getD i 0 ∧ xs.getD i 0 < m) ∧ ∀ j, j < i → 0 ≤ xs.getD j 0 ∧ xs.getD j 0 < m
theorem rng_or_bad (m : Int) (xs : List Int) : Rng m xs ∨ ∃ i, FirstBad m xs i := by
  have : ∀ k, k ≤ xs.length → (∀ j, j < k → 0 ≤ xs.getD j 0 ∧ xs.getD j 0 < m) ∨ ∃ i, FirstBad m xs i := by
    intro k
    induction k with
    | zero => exact fun _ => .inl fun j hj => absurd hj (Nat.not_lt_zero _)
    | succ k ih =>
      intro hk
      rcases ih (by omega) with h | h
      · by_cases b : 0 ≤ xs.getD k 0 ∧ xs.getD k 0 < m
        · refine .inl fun j hj => ?_
          by_cases e : j = k
          · rw [e]; exact b
          · exact h j (by omega)
        · exact .inr ⟨k, by omega, b, h⟩
      · exact .inr h
  rcases this xs.length (Nat.le_refl _) with h | h
  · refine .inl fun x hx => ?_
    obtain ⟨i, hi, e⟩ := List.getElem_of_mem hx
    have := h i hi
    rw [get_D (List.getElem?_eq_getElem hi), e] at this
    exact this
  · exact .inr h
def pTimes (K : PySem.W.Frag) (CN : Addr) : V → V → Hp → VK → XK → Prop := fun a b H Q E => ∃ (r : Addr) (xs : List Int) (m : Int), a = .ref r ∧ b = .int m ∧ SqT K H r (xs.map V.int) ∧ 1 ≤ m ∧ m ≤ 1000000000000 ∧ xs.length ≤ 1000 ∧
  (Rng m xs → ∀ H' v, Same H H' → FitV m xs (xs.length - 2) H' v → (∀ q, v = .ref q → H q = none) → Q v H') ∧ (∀ i, FirstBad m xs i → Bad CN (xs.getD i 0) H E)
/-- all fits on the way -/
def FitsV (m : Int) (xs : List Int) (H : Hp) (vs : List V) : Prop := ∀ j v, vs[j]? = some v → FitV m xs j H v
def pFits (K : PySem.W.Frag) (CN : Addr) : V → V → Hp → VK → XK → Prop := fun a b H Q E => ∃ (r : Addr) (xs : List Int) (m : Int), a = .ref r ∧ b = .int m ∧ SqT K H r (xs.map V.int) ∧ 1 ≤ m ∧ m ≤ 1000000000000 ∧ xs.length ≤ 1000 ∧
  (Rng m xs → ∀ H' l vs, Same H H' → H l = none → H' l = some (.lst vs) → vs.length = xs.length - 2 + 1 → FitsV m xs H' vs → (∀ q, .ref q ∈ vs → H q = none) → Q (.ref l) H') ∧ (∀ i, FirstBad m xs i → Bad CN (xs.getD i 0) H E)
section
variable {P : Program} {w : World} {K : PySem.W.Frag} {mg : Str → Option Value} {base : Heap} {x : Str} {st : Stmt} {N : List Str} {k : Nat}
theorem Top.ok4q {a b c d : Str} {p : V → V → V → V → Hp → VK → XK → Prop} (D : Top K mg x st [a, b, c, d]) (S : FnScope N [a, b, c, d] (defScope st))
    (hbody : ∀ (f : Addr) (cdv : Value) (A : Around) (outer : List Env) (s : Shared) (H : Hp) (v1 v2 v3 v4 : V) (Q : VK) (E : XK), Room k (A.deeper (envOfC x (defScope st) s.heap.objs.size f cdv)) → p v1 v2 v3 v4 H Q E →
      ∃ t, PSs (cxOf CX0 P w K mg base N x (defScope st) f cdv A outer s H E).nox (defBody st) t ∧ t { nx := fun _ H' => Q .non H', rt := Q } (start N [v1, v2, v3, v4]) H) : Has P w K mg base CX0 (k + 1) x [a, b, c, d] (sp4 p) :=
  D.ok S (fun vs H Q E h => by obtain ⟨_, _, _, _, rfl, _⟩ := h; rfl) (fun f cdv A outer s H vs Q E hr h => by obtain ⟨v1, v2, v3, v4, rfl, h⟩ := h; exact hbody f cdv A outer s H v1 v2 v3 v4 Q E hr h)
end
end Tw

/-! Fits by going through all times; data compared. -/
namespace Tw
open PySem PySem.Spec PyProof.Rows L2

theorem eqvAll_ints : ∀ as bs : List Int, PyData.eqvAll (as.map PyData.int) (bs.map PyData.int) = decide (as = bs)
  | [], [] => by simp [PyData.eqvAll]
  | [], b :: bs => by simp [PyData.eqvAll]
  | a :: as, [] => by simp [PyData.eqvAll]
  | a :: as, b :: bs => by
    rw [List.map_cons, List.map_cons, PyData.eqvAll, eqvAll_ints as bs]
    by_cases h : a = b
    · subst h
      by_cases h2 : as = bs <;> simp [PyData.eqv, h2]
    · simp [PyData.eqv, h]
theorem eqv_lints (as bs : List Int) : PyData.eqv (.list (as.map PyData.int)) (.list (bs.map PyData.int)) = decide (as = bs) := by
  rw [PyData.eqv, eqvAll_ints]
theorem eqv_tints (as bs : List Int) : PyData.eqv (.tuple (as.map PyData.int)) (.tuple (bs.map PyData.int)) = decide (as = bs) := by
  rw [PyData.eqv, eqvAll_ints]
theorem FirstBad.no {m : Int} {xs : List Int} {i : Nat} (h : FirstBad m xs i) (rg : Rng m xs) : False := by
  have l := h.1
  have := h.2.1
  rw [get_D (List.getElem?_eq_getElem l)] at this
  exact this (rg _ (List.getElem_mem l))
/-- the plus of times t -/
def plusOf (m : Int) (xs : List Int) (t : Int) : Int := (xs.getD 1 0 - t * xs.getD 0 0) % m
theorem mod_eq_of_dvd {m a b : Int} (m0 : 0 < m) (b0 : 0 ≤ b) (b1 : b < m) (h : m ∣ a - b) : a % m = b := by
  have h2 : a % m = b % m := Int.emod_eq_emod_iff_emod_sub_eq_zero.mpr (Int.emod_eq_zero_of_dvd h)
  rw [h2, Int.emod_eq_of_lt b0 b1]
theorem dvd_of_mod_eq {m a b : Int} (h : a % m = b) : m ∣ a - b := by
  have h1 := Int.mul_ediv_add_emod a m
  exact ⟨a / m, by omega⟩
theorem step_iff {m : Int} {xs : List Int} (m0 : 0 < m) (rg : Rng m xs) (t : Int) : ∀ k, (∀ i, i < k + 1 → (t * xs.getD i 0 + plusOf m xs t) % m = xs.getD (i + 1) 0) ↔ FitU m xs k t
  | 0 => by
    refine ⟨fun _ => fitU_zero m xs t, fun _ i hi => ?_⟩
    have e : i = 0 := by omega
    subst e
    have g := getD_rng m0 rg 1
    refine mod_eq_of_dvd m0 g.1 g.2 ?_
    have h1 := Int.mul_ediv_add_emod (xs.getD 1 0 - t * xs.getD 0 0) m
    unfold plusOf
    exact ⟨-((xs.getD 1 0 - t * xs.getD 0 0) / m), by grind⟩
  | k + 1 => by
    rw [fitU_succ, ← step_iff m0 rg t k]
    constructor
    · intro h
      refine ⟨fun i hi => h i (by omega), ?_⟩
      have h1 := dvd_of_mod_eq (h k (by omega))
      have h2 := dvd_of_mod_eq (h (k + 1) (by omega))
      have h3 := Int.dvd_sub h2 h1
      unfold gat
      rw [show t * (xs.getD (k + 1) 0 - xs.getD k 0) - (xs.getD (k + 1 + 1) 0 - xs.getD (k + 1) 0) = t * xs.getD (k + 1) 0 + plusOf m xs t - xs.getD (k + 1 + 1) 0 - (t * xs.getD k 0 + plusOf m xs t - xs.getD (k + 1) 0) by grind]
      exact h3
    · rintro ⟨h, h3⟩ i hi
      by_cases e : i = k + 1
      · subst e
        have g := getD_rng m0 rg (k + 1 + 1)
        refine mod_eq_of_dvd m0 g.1 g.2 ?_
        have h1 := dvd_of_mod_eq (h k (by omega))
        have h4 := Int.dvd_add h1 h3
        unfold gat at h4
        rw [show t * xs.getD (k + 1) 0 + plusOf m xs t - xs.getD (k + 1 + 1) 0 = t * xs.getD k 0 + plusOf m xs t - xs.getD (k + 1) 0 + (t * (xs.getD (k + 1) 0 - xs.getD k 0) - (xs.getD (k + 1 + 1) 0 - xs.getD (k + 1) 0)) by grind]
        exact h4
      · exact h i (by omega)
/-- sorted, all of a class below m -/
theorem class_head {m l s : Int} {ks : List Int} (m0 : 0 < m) (s0 : 0 < s) (sd : s ∣ m) (l0 : 0 ≤ l) (l1 : l < s) (up : ks.Pairwise (· < ·)) (mem : ∀ t, t ∈ ks ↔ 0 ≤ t ∧ t < m ∧ s ∣ t - l) :
    ∃ rest, ks = l :: rest ∧ (rest ++ [l + m]).head? = some (l + s) := by
  have sm : s ≤ m := Int.le_of_dvd m0 sd
  have hl : l ∈ ks := (mem l).mpr ⟨l0, by omega, by rw [Int.sub_self]; exact Int.dvd_zero s⟩
  have low : ∀ t ∈ ks, t = l ∨ l + s ≤ t := fun t ht => by
    obtain ⟨t0, _, c, hc⟩ := (mem t).mp ht
    by_cases c0 : c ≤ -1
    · have := Int.mul_le_mul_of_nonneg_left c0 (show 0 ≤ s by omega)
      have e : s * -1 = -s := by grind
      omega
    · by_cases cz : c = 0
      · subst cz
        rw [Int.mul_zero] at hc
        exact .inl (by omega)
      · have := Int.mul_le_mul_of_nonneg_left (show 1 ≤ c by omega) (show 0 ≤ s by omega)
        rw [Int.mul_one] at this
        exact .inr (by omega)
  cases ks with
  | nil => cases hl
  | cons a rest =>
    obtain ⟨ua, ur⟩ := List.pairwise_cons.mp up
    have ea : a = l := by
      rcases List.mem_cons.mp hl with e | h
      · exact e.symm
      · have h1 := ua l h
        rcases low a List.mem_cons_self with e | e <;> omega
    subst ea
    refine ⟨rest, rfl, ?_⟩
    by_cases hs : s = m
    · subst hs
      have er : rest = [] := by
        cases rest with
        | nil => rfl
        | cons b r =>
          have h1 := ua b List.mem_cons_self
          have hb : b ∈ a :: b :: r := by simp
          have h2 := (mem b).mp hb
          rcases low b hb with e | e <;> omega
      rw [er]
      rfl
    · have hls : a + s ∈ a :: rest := by
        refine (mem _).mpr ⟨by omega, ?_, by rw [show a + s - a = s by omega]; exact Int.dvd_refl s⟩
        obtain ⟨c, hc⟩ := sd
        have c2 : 2 ≤ c := by
          by_cases z : 2 ≤ c
          · exact z
          · have : c ≤ 1 := by omega
            have := Int.mul_le_mul_of_nonneg_left this (show 0 ≤ s by omega)
            rw [Int.mul_one] at this
            omega
        have := Int.mul_le_mul_of_nonneg_left c2 (show 0 ≤ s by omega)
        omega
      cases rest with
      | nil =>
        rw [List.mem_singleton] at hls
        omega
      | cons b r =>
        have h1 := ua b List.mem_cons_self
        have hb : b ∈ a :: b :: r := by simp
        have h2 : a + s ≤ b := by rcases low b hb with e | e <;> omega
        rcases List.mem_cons.mp hls with e | hls
        · omega
        · rcases List.mem_cons.mp hls with e | h3
          · rw [e]
            rfl
          · have := (List.pairwise_cons.mp ur).1 _ h3
            omega
theorem fitU_mod {m : Int} {xs : List Int} {k : Nat} {t : Int} : FitU m xs k (t % m) ↔ FitU m xs k t := by
  have h1 := Int.mul_ediv_add_emod t m
  have e : ∀ g h : Int, t * g - h = t % m * g - h + m * (t / m * g) := fun g h => by grind
  constructor
  · intro h i hi
    rw [e]
    exact Int.dvd_add (h i hi) (Int.dvd_mul_right _ _)
  · intro h i hi
    have := Int.dvd_sub (h i hi) (Int.dvd_mul_right m (t / m * gat xs i))
    rw [e, show t % m * gat xs i - gat xs (i + 1) + m * (t / m * gat xs i) - m * (t / m * gat xs i) = t % m * gat xs i - gat xs (i + 1) by omega] at this
    exact this
def pTrial (K : PySem.W.Frag) : V → V → Hp → VK → XK → Prop := fun a b H Q _ => ∃ (r : Addr) (xs : List Int) (m : Int) (o : Option (Int × Int)), a = .ref r ∧ b = .int m ∧ SqT K H r (xs.map V.int) ∧ 1 ≤ m ∧ m ≤ 200 ∧ Rng m xs ∧ 2 ≤ xs.length ∧ xs.length ≤ 1000 ∧ FitR m xs (xs.length - 2) o ∧
  ∀ H' v, Same H H' → FitV m xs (xs.length - 2) H' v → Q v H'
def pRight11 (K : PySem.W.Frag) : V → V → Hp → VK → XK → Prop := fun a b H Q _ => ∃ (r : Addr) (xs : List Int) (m : Int), a = .ref r ∧ b = .int m ∧ SqT K H r (xs.map V.int) ∧ 1 ≤ m ∧ m ≤ 1000000000000 ∧ Rng m xs ∧ 2 ≤ xs.length ∧ xs.length ≤ 1000 ∧ ∀ H', Same H H' → Q (.bl true) H'
/-- two told fits are alike: both None, or the same pair -/
theorem FitV.two {m : Int} {xs : List Int} {j : Nat} {H : Hp} {v u : V} (a : FitV m xs j H v) (b : FitV m xs j H u) : (v = .non ∧ u = .non) ∨ ∃ (q p : Addr) (l s : Int), v = .ref q ∧ u = .ref p ∧ H q = some (.tup [.int l, .int s]) ∧ H p = some (.tup [.int l, .int s]) ∧ FitR m xs j (some (l, s)) := by
  rcases a with ⟨rfl, fa⟩ | ⟨q, l, s, rfl, hq, fa⟩
  · rcases b with ⟨rfl, fb⟩ | ⟨p, l', s', rfl, hp, fb⟩
    · exact .inl ⟨rfl, rfl⟩
    · cases fa.uniq fb
  · rcases b with ⟨rfl, fb⟩ | ⟨p, l', s', rfl, hp, fb⟩
    · cases fa.uniq fb
    · have e := fa.uniq fb
      cases e
      exact .inr ⟨q, p, l, s, rfl, rfl, hq, hp, fa⟩
theorem FitV.ex {m : Int} {xs : List Int} {j : Nat} {H : Hp} {v : V} (a : FitV m xs j H v) : ∃ o, FitR m xs j o := by
  rcases a with ⟨_, fa⟩ | ⟨_, l, s, _, _, fa⟩
  · exact ⟨none, fa⟩
  · exact ⟨some (l, s), fa⟩
end Tw

/-! Ranges by great steps; lists of tuples of numbers; the rules that fit. -/
namespace Tw
open PySem PySem.Spec PyProof.Rows L2

/-- how many there are from i below j by steps of c -/
def rgN (i j c : Int) : Nat := if i < j then ((j - i - 1) / c + 1).toNat else 0
def RgS (i j c : Int) : Prop := 0 < c ∧ c ≤ 10000000000000 ∧ -10000000000000 ≤ i ∧ i ≤ 10000000000000 ∧ -10000000000000 ≤ j ∧ j ≤ 10000000000000
theorem rgN_size {i j c : Int} (h : RgS i j c) : Builtin.Range.rangeSize i j c = (rgN i j c : Int) ∧ (rgN i j c : Int) ≤ 20000000000000 := by
  obtain ⟨c0, c1, i0, i1, j0, j1⟩ := h
  unfold Builtin.Range.rangeSize rgN
  rw [if_pos c0]
  by_cases e : i < j
  · rw [if_pos e, if_pos e]
    have h1 : 0 ≤ (j - i - 1) / c := Int.ediv_nonneg (by omega) (by omega)
    have h2 : (j - i - 1) / c ≤ j - i - 1 := Int.ediv_le_self _ (by omega)
    omega
  · rw [if_neg e, if_neg e]
    omega
theorem rgS_small {i j c : Int} (h : RgS i j c) : Builtin.Range.small i j c = true := by
  obtain ⟨e, b⟩ := rgN_size h
  obtain ⟨c0, c1, i0, i1, j0, j1⟩ := h
  unfold Builtin.Range.small
  rw [e]
  simp only [Builtin.Range.rangeFitsLong, Bool.and_eq_true, Bool.or_eq_true, decide_eq_true_eq, beq_iff_eq, if_pos c0]
  omega
def iRngS (ta : TA) : TI := fun σ H R => ta σ H fun vs H1 => ∃ (i j c : Int), vs = [.int i, .int j, .int c] ∧ RgS i j c ∧ R (Itc i c (rgN i j c)) H1
theorem pi_rangeS {X : Cx} {tg a b c : Expr} {ta : TA} {p pos : Pos} (hg : Gl X "range") (hm : X.mg "range" = none) (ha : PA X [a, b, c] ta)
    (hs : starEach [a, b, c] X.env = (false, eval a X.env) :: starEach [b, c] X.env := by rfl) (hpl : (backTo pos (starEach [b, c] X.env)).any (·.1) = false := by rfl) :
    PI X tg (.Call (.Name "range" p) [a, b, c] [] pos) (iRngS ta) := by
  refine ⟨fun pins s σ H R I h => ?_⟩
  refine Call_ (ld_blt I hg hm boot_range (PyProof.Rows.callWith_type1 (thn (ha.run pos pins s σ H _ I h) fun us s1 ⟨vs, H1, I1, r1, q1⟩ => ?_) hs hpl))
  obtain ⟨i, j, k, e, hr, q⟩ := q1
  subst e
  obtain ⟨u1, u2, u3, rfl, ⟨t, rfl⟩, ⟨t', rfl⟩, ⟨t'', rfl⟩⟩ := valsX3 r1
  have hb : Big k := by
    have := hr.1
    have := hr.2.1
    unfold Big
    omega
  refine call_range_3 (by have := hr.1; omega) ?_ (.inl (PyProof.noPylong_of_log2 (Nat.lt_of_lt_of_le (PySem.Flt.log2_lt_of (by decide) hb.abs) (by decide))))
  refine wpAny_pyIter_range (IsRange.new ..) (rgS_small hr) ?_
  have I2 : Inv X pins σ H1 { s1 with heap := s1.heap.push { cls := .type "range", data := .fields #[.int i t, .int j t', .int k t''] } } := I1.kept (t' := s1.toks) fun b o e => Heap.get?_push_of_some _ e
  refine pi_one (tk := s1.toks) I2 _ (turn_rangeC _ i k (rgN i j k)) ?_ q
  have e1 : i + ((0 : Nat) : Int) * k = i := by simp
  have e2 : ((rgN i j k : Nat) : Int) - ((0 : Nat) : Int) = Builtin.Range.rangeSize i j k := by rw [(rgN_size hr).1]; simp
  show IsRangeIter _ _ (i + ((0 : Nat) : Int) * k) (((rgN i j k : Nat) : Int) - ((0 : Nat) : Int)) k
  rw [e1, e2]
  exact Heap.get?_push_size _ rfl
/-! ### lists of tuples of numbers -/
def TRows (H : Hp) (ps : List Addr) (rs : List (List Int)) : Prop := ps.length = rs.length ∧ ∀ (i : Nat) (p : Addr) (r : List Int), ps[i]? = some p → rs[i]? = some r → H p = some (.tup (r.map V.int))
theorem TRows.nil (H : Hp) : TRows H [] [] := ⟨rfl, fun _ _ _ h => by cases h⟩
theorem TRows.same {H H' : Hp} {ps : List Addr} {rs : List (List Int)} (h : TRows H ps rs) (s : Same H H') : TRows H' ps rs := ⟨h.1, fun i p r a b => s _ _ (h.2 i p r a b)⟩
theorem TRows.mut {H : Hp} {ps : List Addr} {rs : List (List Int)} {L : Addr} {xs : List V} {o : HO} (h : TRows H ps rs) (hL : H L = some (.lst xs)) : TRows (upd H L o) ps rs := ⟨h.1, fun i p r a b => by
  have e := h.2 i p r a b
  rw [upd_ne (fun z => by rw [z, hL] at e; cases e)]
  exact e⟩
theorem TRows.snoc {H : Hp} {ps : List Addr} {rs : List (List Int)} {p : Addr} {r : List Int} (h : TRows H ps rs) (hp : H p = some (.tup (r.map V.int))) : TRows H (ps ++ [p]) (rs ++ [r]) := by
  refine ⟨by rw [List.length_append, List.length_append, h.1]; rfl, fun i p' r' a b => ?_⟩
  by_cases e : i < ps.length
  · rw [List.getElem?_append_left e] at a
    rw [List.getElem?_append_left (by rw [← h.1]; exact e)] at b
    exact h.2 i p' r' a b
  · have l1 := (List.getElem?_eq_some_iff.mp a).1
    rw [List.length_append] at l1
    have e' : i = ps.length := by simp at l1; omega
    subst e'
    rw [List.getElem?_append_right (Nat.le_refl _), Nat.sub_self] at a
    rw [h.1, List.getElem?_append_right (Nat.le_refl _), Nat.sub_self] at b
    cases a
    cases b
    exact hp
def dRows (rs : List (List Int)) : PyData := .list (rs.map fun r => .tuple (r.map PyData.int))
theorem lay_rows : ∀ rs : List (List Int), PyData.canLayAll0 (rs.map fun r => .tuple (r.map PyData.int)) = true ∧ PyData.depthAll (rs.map fun r => .tuple (r.map PyData.int)) ≤ 1
  | [] => ⟨rfl, by decide⟩
  | r :: rs => by
    obtain ⟨h1, h2⟩ := lay_rows rs
    obtain ⟨g1, g2⟩ := lay_ints r
    constructor
    · show (PyData.canLayAll0 (r.map PyData.int) && PyData.canLayAll0 (rs.map fun r => .tuple (r.map PyData.int))) = true
      rw [h1, g1]
      rfl
    · show max (PyData.depthAll (r.map PyData.int) + 1) (PyData.depthAll (rs.map fun r => .tuple (r.map PyData.int))) ≤ 1
      rw [g2]
      omega
theorem shp_rows (rs : List (List Int)) : SeqAt.shaped (dRows rs) = true := by
  obtain ⟨h1, h2⟩ := lay_rows rs
  show (PyData.canLayAll0 (rs.map fun r => .tuple (r.map PyData.int)) && decide (PyData.depthAll (rs.map fun r => .tuple (r.map PyData.int)) + 1 ≤ 64)) = true
  rw [h1, decide_eq_true (by omega)]
  rfl
theorem dp_rows {K : PySem.W.Frag} {H : Hp} : ∀ (ps : List Addr) (rs : List (List Int)), TRows H ps rs → DpAll K H (ps.map V.ref) (rs.map fun r => PyData.tuple (r.map PyData.int))
  | [], [], _ => .nil
  | [], _ :: _, h => absurd h.1 (by simp)
  | _ :: _, [], h => absurd h.1 (by simp)
  | p :: ps, r :: rs, h => .cons (.tup (SqT.of (h.2 0 p r rfl rfl)) (dp_ints r)) (dp_rows ps rs ⟨by have := h.1; simp at this; exact this, fun i p' r' a b => h.2 (i + 1) p' r' (by rw [List.getElem?_cons_succ]; exact a) (by rw [List.getElem?_cons_succ]; exact b)⟩)
theorem TRows.dp {K : PySem.W.Frag} {H : Hp} {l : Addr} {ps : List Addr} {rs : List (List Int)} (hl : H l = some (.lst (ps.map V.ref))) (h : TRows H ps rs) : Dp K H (.ref l) (dRows rs) := .lst (SqL.of hl) (dp_rows ps rs h)
/-! ### the first rules that fit -/
def ruleOf (m : Int) (xs : List Int) (t : Int) : List Int := [t, plusOf m xs t, m]
def rulesN (m : Int) (xs : List Int) (l s : Int) (n : Nat) : List (List Int) := (List.range n).map fun (i : Nat) => ruleOf m xs (l + (i : Int) * s)
def howMany (m : Int) (n : Int) : Option (Int × Int) → Nat
  | some (_, s) => (min n (m / s)).toNat
  | none => 0
def rulesR (m : Int) (xs : List Int) (n : Int) (o : Option (Int × Int)) : List (List Int) := match o with
  | some (l, s) => rulesN m xs l s (howMany m n (some (l, s)))
  | none => []
theorem rulesN_succ (m : Int) (xs : List Int) (l s : Int) (n : Nat) : rulesN m xs l s (n + 1) = rulesN m xs l s n ++ [ruleOf m xs (l + (n : Int) * s)] := by
  unfold rulesN
  rw [List.range_succ, List.map_append]
  rfl
theorem rulesN_len (m : Int) (xs : List Int) (l s : Int) (n : Nat) : (rulesN m xs l s n).length = n := by
  unfold rulesN
  rw [List.length_map, List.length_range]
/-- how many the range tells -/
theorem rg_count {m l s n : Int} (m0 : 0 < m) (s0 : 0 < s) (sd : s ∣ m) (l0 : 0 ≤ l) (l1 : l < s) (n0 : 0 ≤ n) : rgN l (if l + s * n < m then l + s * n else m) s = (min n (m / s)).toNat := by
  obtain ⟨c, rfl⟩ := sd
  have c0 : 0 < c := by
    by_cases z : 0 < c
    · exact z
    · have := Int.mul_nonneg (show 0 ≤ s by omega) (show 0 ≤ -c by omega)
      have e : s * -c = -(s * c) := by grind
      omega
  rw [Int.mul_ediv_cancel_left _ (show s ≠ 0 by omega)]
  unfold rgN
  by_cases h : l + s * n < s * c
  · rw [if_pos h]
    have nc : n < c := by
      by_cases z : n < c
      · exact z
      · have := Int.mul_le_mul_of_nonneg_left (show c ≤ n by omega) (show 0 ≤ s by omega)
        omega
    by_cases hn : n = 0
    · subst hn
      rw [Int.mul_zero, if_neg (by omega)]
      omega
    · have h1 := Int.mul_le_mul_of_nonneg_left (show 1 ≤ n by omega) (show 0 ≤ s by omega)
      rw [Int.mul_one] at h1
      rw [if_pos (by omega)]
      have e : (l + s * n - l - 1) / s = n - 1 := by
        rw [show l + s * n - l - 1 = (s - 1) + s * (n - 1) by grind, Int.add_mul_ediv_left _ _ (show s ≠ 0 by omega), Int.ediv_eq_zero_of_lt (by omega) (by omega)]
        omega
      rw [e]
      omega
  · rw [if_neg h]
    have cn : c ≤ n := by
      by_cases z : c ≤ n
      · exact z
      · have := Int.mul_le_mul_of_nonneg_left (show n + 1 ≤ c by omega) (show 0 ≤ s by omega)
        have e : s * (n + 1) = s * n + s := by grind
        omega
    have h1 := Int.mul_le_mul_of_nonneg_left (show 1 ≤ c by omega) (show 0 ≤ s by omega)
    rw [Int.mul_one] at h1
    rw [if_pos (by omega)]
    have e : (s * c - l - 1) / s = c - 1 := by
      rw [show s * c - l - 1 = (s - 1 - l) + s * (c - 1) by grind, Int.add_mul_ediv_left _ _ (show s ≠ 0 by omega), Int.ediv_eq_zero_of_lt (by omega) (by omega)]
      omega
    rw [e]
    omega
def pRules (K : PySem.W.Frag) (CN : Addr) : V → V → V → Hp → VK → XK → Prop := fun a b c H Q E => ∃ (r : Addr) (xs : List Int) (m n : Int), a = .ref r ∧ b = .int m ∧ c = .int n ∧ SqT K H r (xs.map V.int) ∧ 1 ≤ m ∧ m ≤ 1000000000000 ∧ 0 ≤ n ∧ n ≤ 3000 ∧ 2 ≤ xs.length ∧ xs.length ≤ 1000 ∧
  (Rng m xs → ∀ H' l ps o, Same H H' → H l = none → H' l = some (.lst (ps.map V.ref)) → TRows H' ps (rulesR m xs n o) → FitR m xs (xs.length - 2) o → Q (.ref l) H') ∧ (∀ i, FirstBad m xs i → Bad CN (xs.getD i 0) H E)
end Tw
namespace Tw
open PySem PySem.Spec PyProof.Rows L2
def pDueR (K : PySem.W.Frag) : V → V → V → Hp → VK → XK → Prop := fun a b c H Q _ => ∃ (r : Addr) (xs : List Int) (m n : Int), a = .ref r ∧ b = .int m ∧ c = .int n ∧ SqT K H r (xs.map V.int) ∧ 1 ≤ m ∧ m ≤ 1000000000000 ∧ 0 ≤ n ∧ n ≤ 3000 ∧ 2 ≤ xs.length ∧ xs.length ≤ 1000 ∧ Rng m xs ∧
  ∀ H' l ps o, Same H H' → H l = none → H' l = some (.lst (ps.map V.ref)) → TRows H' ps (rulesR m xs n o) → FitR m xs (xs.length - 2) o → Q (.ref l) H'
def pAreR : V → V → Hp → VK → XK → Prop := fun a b H Q _ => ∃ (l1 l2 : Addr) (ps1 ps2 : List Addr) (rs : List (List Int)), a = .ref l1 ∧ b = .ref l2 ∧ H l1 = some (.lst (ps1.map V.ref)) ∧ H l2 = some (.lst (ps2.map V.ref)) ∧ TRows H ps1 rs ∧ TRows H ps2 rs ∧ ∀ H', Same H H' → Q (.bl true) H'
def pRight12 (K : PySem.W.Frag) : V → V → V → Hp → VK → XK → Prop := fun a b c H Q _ => ∃ (r : Addr) (xs : List Int) (m n : Int), a = .ref r ∧ b = .int m ∧ c = .int n ∧ SqT K H r (xs.map V.int) ∧ 1 ≤ m ∧ m ≤ 1000000000000 ∧ 0 ≤ n ∧ n ≤ 3000 ∧ 2 ≤ xs.length ∧ xs.length ≤ 1000 ∧ Rng m xs ∧ ∀ H', Same H H' → Q (.bl true) H'
theorem rulesR_len {m n : Int} {xs : List Int} {o : Option (Int × Int)} (n0 : 0 ≤ n) (n1 : n ≤ 3000) : (rulesR m xs n o).length ≤ 3000 := by
  cases o with
  | none => exact Nat.zero_le _
  | some p =>
    obtain ⟨l, s⟩ := p
    show (rulesN m xs l s (min n (m / s)).toNat).length ≤ 3000
    rw [rulesN_len]
    omega
theorem TRows.get {H : Hp} {ps : List Addr} {rs : List (List Int)} (h : TRows H ps rs) {i : Nat} {v : V} (hv : (ps.map V.ref)[i]? = some v) : ∃ p r, v = .ref p ∧ rs[i]? = some r ∧ H p = some (.tup (r.map V.int)) := by
  rw [List.getElem?_map] at hv
  cases e : ps[i]? with
  | none => rw [e] at hv; cases hv
  | some p =>
    rw [e] at hv
    cases hv
    have li := (List.getElem?_eq_some_iff.mp e).1
    have lr : i < rs.length := by rw [← h.1]; exact li
    exact ⟨p, rs[i], rfl, List.getElem?_eq_getElem lr, h.2 i p _ e (List.getElem?_eq_getElem lr)⟩
end Tw

/-! What settles a row; the number behind; a held refusal against several classes at once. -/
namespace Tw
open PySem PySem.Spec PyProof.Rows L2

/-- isinstance(e, (C1, C2, ..)), e a held exception of the class at D -/
def rIsXT (K : PySem.W.Frag) : List V → Hp → VK → Prop := fun xs H Q => ∃ (a D : Addr) (d : Option Addr) (tp : Addr) (cs : List V) (us : List Value) (b : Bool), xs = [.ref a, .ref tp] ∧ H tp = some (.tup cs) ∧ Paired ClsV cs us ∧ H a = some (exv a (.ref D) d) ∧ HasD H d ∧ XcC K D ∧ PySem.W.kitAny K (.ref D) us = some b ∧ Q (.bl b) H
theorem call_isXT {X : Cx} : CallR X (.builtin "isinstance") (rIsXT X.K) := by
  intro pins s σ H xs us Q I r h
  obtain ⟨a, D, d, tp, cs, ws, b, rfl, hT, k, ea, hd, T, e, q⟩ := h
  obtain ⟨u1, u2, rfl, r1, r2⟩ := vals2 r
  cases (show u1 = Value.ref a from r1)
  cases (show u2 = Value.ref tp from r2)
  obtain ⟨_, its, rv, o, h1, h2, n, h3⟩ := (show ObjOk X.prog X.w H s.heap tp (.tup cs) from I.hok tp _ hT)
  have e3 := ClsV.all k rv
  subst e3
  obtain ⟨oc, od', dt, sl⟩ := o
  simp only at h2 h3
  subst h2 h3
  obtain ⟨oe, od, J⟩ := inst_of I ea hd
  exact PySem.W.kia_tup (PySem.W.kitx_exc T.hc T.hg T.hk T.hs T.ha T.hn T.ht T.hm) I.kIn J h1 e (fun z => nomatch z) fun tk => ⟨.bl b, H, I.tok tk, rfl, q⟩
theorem kitAny4 {K : PySem.W.Frag} {t a b c d : Value} (ha : PySem.W.kitOne K t a = some false) (hb : PySem.W.kitOne K t b = some false) (hc : PySem.W.kitOne K t c = some false) (hd : PySem.W.kitOne K t d = some false) : PySem.W.kitAny K t [a, b, c, d] = some false := by
  unfold PySem.W.kitAny
  rw [ha]
  simp only
  unfold PySem.W.kitAny
  rw [hb]
  simp only
  unfold PySem.W.kitAny
  rw [hc]
  simp only
  unfold PySem.W.kitAny
  rw [hd]
  rfl
theorem flatI (ns : List Int) : (ns.map V.int).all flatV = true := by
  rw [List.all_map, List.all_eq_true]
  exact fun x _ => rfl
theorem eqVI (a b : Int) : eqV (.int a) (.int b) = decide (a = b) := by
  by_cases h : a = b
  · rw [h]; simp [eqV]
  · simp [eqV, h]
theorem inVI (m : Int) (ns : List Int) : inV (.int m) (ns.map V.int) = decide (m ∈ ns) := by
  unfold inV
  rw [List.any_map]
  by_cases h : m ∈ ns
  · rw [decide_eq_true h, List.any_eq_true]
    exact ⟨m, h, by show eqV (.int m) (.int m) = true; rw [eqVI]; simp⟩
  · rw [decide_eq_false h, List.any_eq_false]
    intro x hx
    show ¬ eqV (.int x) (.int m) = true
    rw [eqVI]
    simp
    exact fun e => h (e ▸ hx)
/-! ### beginnings -/
theorem gat_take {xs : List Int} {k i : Nat} (h : i + 1 < k) : gat (xs.take k) i = gat xs i := by
  unfold gat
  rw [List.getD_eq_getElem?_getD, List.getD_eq_getElem?_getD, List.getD_eq_getElem?_getD, List.getD_eq_getElem?_getD, List.getElem?_take_of_lt h, List.getElem?_take_of_lt (by omega)]
theorem fitU_take {m : Int} {xs : List Int} {k j : Nat} {t : Int} (h : j + 2 ≤ k) : FitU m (xs.take k) j t ↔ FitU m xs j t := by
  constructor
  · intro q i hi
    have := q i hi
    rw [gat_take (by omega), gat_take (by omega)] at this
    exact this
  · intro q i hi
    rw [gat_take (by omega), gat_take (by omega)]
    exact q i hi
theorem fitR_take {m : Int} {xs : List Int} {k j : Nat} {o : Option (Int × Int)} (h : j + 2 ≤ k) : FitR m (xs.take k) j o ↔ FitR m xs j o := by
  cases o with
  | none => exact ⟨fun q t ht => q t ((fitU_take h).mpr ht), fun q t ht => q t ((fitU_take h).mp ht)⟩
  | some p =>
    obtain ⟨l, s⟩ := p
    constructor
    · rintro ⟨a, b, c, d, e⟩
      exact ⟨a, b, c, d, fun t => (fitU_take h).symm.trans (e t)⟩
    · rintro ⟨a, b, c, d, e⟩
      exact ⟨a, b, c, d, fun t => (fitU_take h).trans (e t)⟩
theorem fitV_take {m : Int} {xs : List Int} {k j : Nat} {H : Hp} {v : V} (h : j + 2 ≤ k) : FitV m (xs.take k) j H v ↔ FitV m xs j H v := by
  unfold FitV
  simp only [fitR_take h]
/-- one rule alone fits the first j conditions -/
def One (m : Int) (xs : List Int) (j : Nat) : Prop := ∃ l, FitR m xs j (some (l, m))
/-- by what the row is settled -/
def Sett (m : Int) (xs : List Int) (v : V) : Prop := (v = .non ∧ (FitR m xs (xs.length - 2) none ∨ ∀ j, j ≤ xs.length - 2 → ¬ One m xs j)) ∨ ∃ j : Nat, v = .int ((j : Int) + 2) ∧ j ≤ xs.length - 2 ∧ One m xs j ∧ (∀ i, i < j → ¬ One m xs i) ∧ ¬ FitR m xs (xs.length - 2) none
theorem Sett.uniq {m : Int} {xs : List Int} {v u : V} (a : Sett m xs v) (b : Sett m xs u) : v = u := by
  rcases a with ⟨rfl, a⟩ | ⟨j, rfl, jl, o, lo, nn⟩
  · rcases b with ⟨rfl, _⟩ | ⟨j, rfl, jl, o, lo, nn⟩
    · rfl
    · rcases a with a | a
      · exact absurd a nn
      · exact absurd o (a j jl)
  · rcases b with ⟨rfl, b⟩ | ⟨j', rfl, jl', o', lo', nn'⟩
    · rcases b with b | b
      · exact absurd b nn
      · exact absurd o (b j jl)
    · have e : j = j' := by
        by_cases h : j < j'
        · exact absurd o (lo' j h)
        · by_cases h' : j' < j
          · exact absurd o' (lo j' h')
          · omega
      rw [e]
def pSettled (K : PySem.W.Frag) (CN : Addr) : V → V → Hp → VK → XK → Prop := fun a b H Q E => ∃ (r : Addr) (xs : List Int) (m : Int), a = .ref r ∧ b = .int m ∧ SqT K H r (xs.map V.int) ∧ 1 ≤ m ∧ m ≤ 1000000000000 ∧ 2 ≤ xs.length ∧ xs.length ≤ 1000 ∧
  (Rng m xs → ∀ H' v, Same H H' → Sett m xs v → Q v H') ∧ (∀ i, FirstBad m xs i → Bad CN (xs.getD i 0) H E)
/-- the number behind by times t -/
def nxB (m : Int) (xs : List Int) (t : Int) : Int := (t * xs.getD (xs.length - 1) 0 + plusOf m xs t) % m
def behV (m : Int) (xs : List Int) (l s : Int) : V := if nxB m xs l = nxB m xs (l + s) then .int (nxB m xs l) else .non
theorem nxB_eq (m : Int) (xs : List Int) (t : Int) : nxB m xs t = (t * xs.getD (xs.length - 1) 0 + xs.getD 1 0 - t * xs.getD 0 0) % m := by
  unfold nxB plusOf
  rw [Int.add_emod, Int.emod_emod, ← Int.add_emod]
  congr 1
  omega
theorem nxB_m (m : Int) (xs : List Int) (l : Int) : nxB m xs (l + m) = nxB m xs l := by
  rw [nxB_eq, nxB_eq, show (l + m) * xs.getD (xs.length - 1) 0 + xs.getD 1 0 - (l + m) * xs.getD 0 0 = l * xs.getD (xs.length - 1) 0 + xs.getD 1 0 - l * xs.getD 0 0 + m * (xs.getD (xs.length - 1) 0 - xs.getD 0 0) by grind, Int.add_mul_emod_self_left]
def pBehind (K : PySem.W.Frag) (CN CF : Addr) : V → V → Hp → VK → XK → Prop := fun a b H Q E => ∃ (r : Addr) (xs : List Int) (m : Int), a = .ref r ∧ b = .int m ∧ SqT K H r (xs.map V.int) ∧ 1 ≤ m ∧ m ≤ 1000000000000 ∧ 2 ≤ xs.length ∧ xs.length ≤ 1000 ∧
  (Rng m xs → ∀ H' l s, Same H H' → FitR m xs (xs.length - 2) (some (l, s)) → Q (behV m xs l s) H') ∧ (Rng m xs → ∀ H', Same H H' → FitR m xs (xs.length - 2) none → E (.ref CF) none H') ∧ (∀ i, FirstBad m xs i → Bad CN (xs.getD i 0) H E)
end Tw
namespace Tw
theorem idx_le : ∀ {ss : List Int} {k : Nat} {m : Int}, ss[k]? = some m → ss.idxOf m ≤ k
  | [], _, _, h => by cases h
  | a :: ss, 0, m, h => by
    cases h
    rw [List.idxOf_cons_self]
    exact Nat.le_refl _
  | a :: ss, k + 1, m, h => by
    rw [List.getElem?_cons_succ] at h
    have := idx_le h
    rw [List.idxOf_cons]
    cases (a == m)
    · show List.idxOf m ss + 1 ≤ k + 1
      omega
    · exact Nat.zero_le _
end Tw
namespace Tw
open PySem PySem.Spec PyProof.Rows L2
def pLSett (K : PySem.W.Frag) : V → V → Hp → VK → XK → Prop := fun a b H Q _ => ∃ (r : Addr) (xs : List Int) (m : Int), a = .ref r ∧ b = .int m ∧ SqT K H r (xs.map V.int) ∧ 1 ≤ m ∧ m ≤ 1000000000000 ∧ Rng m xs ∧ 2 ≤ xs.length ∧ xs.length ≤ 1000 ∧ ∀ H' v, Same H H' → Sett m xs v → Q v H'
def pLNext (K : PySem.W.Frag) : V → V → V → Hp → VK → XK → Prop := fun a b c H Q _ => ∃ (r : Addr) (xs : List Int) (m t : Int), a = .ref r ∧ b = .int m ∧ c = .int t ∧ SqT K H r (xs.map V.int) ∧ 1 ≤ m ∧ m ≤ 1000000000000 ∧ Rng m xs ∧ 2 ≤ xs.length ∧ 0 ≤ t ∧ t ≤ 2000000000000 ∧ Q (.int (nxB m xs t)) H
def pNoFit (K : PySem.W.Frag) : V → V → Hp → VK → XK → Prop := fun a b H Q _ => ∃ (r : Addr) (xs : List Int) (m : Int), a = .ref r ∧ b = .int m ∧ SqT K H r (xs.map V.int) ∧ 1 ≤ m ∧ m ≤ 1000000000000 ∧ Rng m xs ∧ 2 ≤ xs.length ∧ xs.length ≤ 1000 ∧ FitR m xs (xs.length - 2) none ∧ ∀ H', Same H H' → Q (.bl true) H'
theorem at_last {xs : List Int} (h : 1 ≤ xs.length) : atI (xs.map V.int) (-1) = some (.int (xs.getD (xs.length - 1) 0)) := by
  have ne : xs ≠ [] := fun z => by rw [z] at h; exact absurd h (by simp)
  have e1 : xs.getD (xs.length - 1) 0 = xs.getLast ne := by
    rw [get_D (List.getElem?_eq_getElem (show xs.length - 1 < xs.length by omega)), List.getLast_eq_getElem]
  rw [e1]
  conv => lhs; rw [← List.dropLast_concat_getLast ne]
  rw [List.map_append]
  exact atI_last _ _
end Tw

/-! Decks of one great number and a mixed one: what is drawn of them. -/
namespace Tw
open PySem PySem.Spec PyProof.Rows L2

theorem bits_lt {x : Int} {n : Nat} (h : Builtin.Int.intBits x ≤ n) : x.natAbs < 2 ^ n := by
  unfold Builtin.Int.intBits at h
  by_cases e : x = 0
  · subst e
    exact Nat.two_pow_pos n
  · rw [if_neg (by simpa using e)] at h
    exact Nat.lt_of_lt_of_le (Nat.lt_log2_self) (Nat.pow_le_pow_right (by decide) h)
theorem lt_bits {x : Int} {n : Nat} (h : x.natAbs < 2 ^ n) : Builtin.Int.intBits x ≤ n := by
  unfold Builtin.Int.intBits
  by_cases e : x = 0
  · subst e
    exact Nat.zero_le _
  · rw [if_neg (by simpa using e)]
    have : x.natAbs.log2 < n := (Nat.log2_lt (by omega)).mpr h
    omega
theorem bits_step {g c : Int} {n k : Nat} (g0 : 0 ≤ g) (hg : Builtin.Int.intBits g ≤ n) (hc : Builtin.Int.intBits c ≤ n) : Builtin.Int.intBits (g * 2 ^ k + ab c) ≤ n + k + 1 := by
  refine lt_bits ?_
  have h1 := bits_lt hg
  have h2 := bits_lt hc
  have h3 : (g * 2 ^ k).natAbs < 2 ^ (n + k) := by
    rw [Int.natAbs_mul, Nat.pow_add, show ((2 : Int) ^ k).natAbs = 2 ^ k by rw [Int.natAbs_pow]; rfl]
    exact Nat.mul_lt_mul_of_pos_right h1 (Nat.two_pow_pos k)
  have h4 : (ab c).natAbs < 2 ^ (n + k) := by
    rw [ab_nat]
    exact Nat.lt_of_lt_of_le h2 (Nat.pow_le_pow_right (by decide) (by omega))
  rw [Nat.pow_succ]
  have := Int.natAbs_add_le (g * 2 ^ k) (ab c)
  omega
def DeckB (H : Hp) (d : Addr) (n : Nat) : Prop := ∃ g x k : Int, H d = some (.lst [.int g, .int x, .int k]) ∧ 0 ≤ g ∧ 0 ≤ x ∧ x < 2000000000 ∧ 0 ≤ k ∧ k ≤ (n : Int)
theorem DeckB.mono {H : Hp} {d : Addr} {n m : Nat} (h : DeckB H d n) (l : n ≤ m) : DeckB H d m := by
  obtain ⟨g, x, k, a1, a2, a3, a4, a5, a6⟩ := h
  exact ⟨g, x, k, a1, a2, a3, a4, a5, by omega⟩
theorem DeckB.same {H H' : Hp} {d : Addr} {n : Nat} (h : DeckB H d n) (s : Same H H') : DeckB H' d n := by
  obtain ⟨g, x, k, a1, a2⟩ := h
  exact ⟨g, x, k, s _ _ a1, a2⟩
theorem DeckB.ne {H : Hp} {d p : Addr} {n : Nat} (h : DeckB H d n) (e : H p = none) : p ≠ d := by
  obtain ⟨g, x, k, a1, _⟩ := h
  intro z
  rw [z, a1] at e
  cases e
theorem DeckB.ne_tup {H : Hp} {d p : Addr} {n : Nat} {xs : List V} (h : DeckB H d n) (e : H p = some (.tup xs)) : p ≠ d := by
  obtain ⟨g, x, k, a1, _⟩ := h
  intro z
  rw [z, a1] at e
  cases e
theorem DeckB.nohd {H : Hp} {d : Addr} {n : Nat} (h : DeckB H d n) : ∀ c, ¬ At H d c := fun c hc => by
  obtain ⟨g, x, k, a1, _⟩ := h
  obtain ⟨_, e⟩ := hc
  rw [a1] at e
  cases e
theorem DeckB.mut {H : Hp} {d L : Addr} {n : Nat} {o : HO} (h : DeckB H d n) (ne : L ≠ d) : DeckB (upd H L o) d n := by
  obtain ⟨g, x, k, a1, a2⟩ := h
  exact ⟨g, x, k, by rw [upd_ne (Ne.symm ne)]; exact a1, a2⟩
theorem But.tupB {K : PySem.W.Frag} {H H' : Hp} {d r : Addr} {n : Nat} {xs : List V} (b : But d H H') (D : DeckB H d n) (h : SqT K H r xs) : SqT K H' r xs := by
  obtain ⟨g, x, k, a1, _⟩ := D
  rcases h with (h | ⟨o, h⟩) | h
  · refine .inl (.inl (b _ _ (fun z => ?_) h))
    rw [z, a1] at h
    cases h
  · refine .inl (.inr ⟨o, b _ _ (fun z => ?_) h⟩)
    rw [z, a1] at h
    cases h
  · exact .inr h
def pDeckB (K : PySem.W.Frag) : V → Hp → VK → XK → Prop := fun a H Q _ => ∃ (s : Addr) (xs : List Int), a = .ref s ∧ SqL K H s (xs.map V.int) ∧ xs.length ≤ 63 ∧ (∀ z ∈ xs, Builtin.Int.intBits z ≤ 1048576) ∧ ∀ H' d, Same H H' → H d = none → DeckB H' d 0 → Q (.ref d) H'
def pDrB (c : Nat) : V → V → Hp → VK → XK → Prop := fun a b H Q _ => ∃ (d : Addr) (n : Nat) (m : Int), a = .ref d ∧ b = .int m ∧ 0 < m ∧ m < 1000000000000000000000000000000000000000000 ∧ DeckB H d n ∧ n + c ≤ 100000000 ∧
  ∀ (H' : Hp) (v : Int), But d H H' → DeckB H' d (n + c) → 0 ≤ v → v < m → Q (.int v) H'
def pRuleB : V → V → Hp → VK → XK → Prop := fun a b H Q _ => ∃ (d : Addr) (n : Nat) (m : Int), a = .ref d ∧ b = .int m ∧ (m = 60 ∨ m = 2000) ∧ DeckB H d n ∧ n + 20 ≤ 100000000 ∧
  ∀ (H' : Hp) (r : Addr) (t p b : Int), But d H H' → DeckB H' d (n + 20) → H r = none → H' r = some (.tup [.int t, .int p, .int b]) → Rule t p b → b ≤ m → Q (.ref r) H'
def pRowB (K : PySem.W.Frag) : V → V → V → Hp → VK → XK → Prop := fun a b c H Q _ => ∃ (r : Addr) (t p m s n : Int), a = .ref r ∧ b = .int s ∧ c = .int n ∧ SqT K H r [.int t, .int p, .int m] ∧ Rule t p m ∧ 0 ≤ s ∧ s < m ∧ 0 ≤ n ∧ n ≤ 10000 ∧
  ∀ H' l, Same H H' → H l = none → H' l = some (.lst ((orb (stp t p m) n.toNat s).map V.int)) → Q (.ref l) H'
def pPart : V → V → Hp → VK → XK → Prop := fun a b H Q _ => ∃ (d : Addr) (n : Nat) (m : Int), a = .ref d ∧ b = .int m ∧ 1 ≤ m ∧ m ≤ 1000000000000 ∧ DeckB H d n ∧ n + 5 ≤ 100000000 ∧
  ∀ (H' : Hp) (v : Int), But d H H' → DeckB H' d (n + 5) → 1 ≤ v → v ≤ m + 1000 → Q (.int v) H'
def pNone : V → V → Hp → VK → XK → Prop := fun a b H Q _ => ∃ (d : Addr) (n : Nat) (m : Int), a = .ref d ∧ b = .int m ∧ 1 ≤ m ∧ m ≤ 1000000000000 ∧ DeckB H d n ∧ n + 3 ≤ 100000000 ∧
  ∀ (H' : Hp) (v : Int), But d H H' → DeckB H' d (n + 3) → (v < 0 ∨ m ≤ v) → Q (.int v) H'
/-- alike, of whole numbers or None -/
def pSame1 : V → V → Hp → VK → XK → Prop := fun a b H Q _ => (∃ x y : Int, a = .int x ∧ b = .int y ∧ Q (.bl (decide (x = y))) H) ∨ (a = .non ∧ b = .non ∧ Q (.bl true) H)
/-- alike, of tuples of whole numbers -/
def pSame2 (K : PySem.W.Frag) : V → V → Hp → VK → XK → Prop := fun a b H Q _ => ∃ (p q : Addr) (xs : List Int), a = .ref p ∧ b = .ref q ∧ H p = some (.tup (xs.map V.int)) ∧ H q = some (.tup (xs.map V.int)) ∧ ∀ H', Same H H' → Q (.bl true) H'
end Tw
namespace Tw
open PySem PySem.Spec PyProof.Rows L2
section
variable {P : Program} {w : World} {K : PySem.W.Frag} {mg : Str → Option Value} {base : Heap} {x : Str} {st : Stmt} {N : List Str} {k : Nat}
theorem Top.ok4qX {a b c d : Str} {p : V → V → V → V → Hp → VK → XK → Prop} (D : Top K mg x st [a, b, c, d]) (S : FnScope N [a, b, c, d] (defScope st))
    (hbody : ∀ (f : Addr) (cdv : Value) (A : Around) (outer : List Env) (s : Shared) (H : Hp) (v1 v2 v3 v4 : V) (Q : VK) (E : XK), Room k (A.deeper (envOfC x (defScope st) s.heap.objs.size f cdv)) → p v1 v2 v3 v4 H Q E →
      ∃ t, PSs (cxOf (L2.CX P w) P w K mg base N x (defScope st) f cdv A outer s H E) (defBody st) t ∧ t { nx := fun _ H' => Q .non H', rt := Q } (start N [v1, v2, v3, v4]) H) : Has P w K mg base (L2.CX P w) (k + 1) x [a, b, c, d] (sp4 p) :=
  D.okX S (fun vs H Q E h => by obtain ⟨_, _, _, _, rfl, _⟩ := h; rfl) (fun f cdv A outer s H vs Q E hr h => by obtain ⟨v1, v2, v3, v4, rfl, h⟩ := h; exact hbody f cdv A outer s H v1 v2 v3 v4 Q E hr h)
end
/-- the parts of a row -/
def prts (t p m : Int) (n : Nat) (s pt : Int) : List Int := (orb (stp t p m) n s).map (· / pt)
theorem prts_len (t p m : Int) (n : Nat) (s pt : Int) : (prts t p m n s pt).length = n := by unfold prts; rw [List.length_map, orb_len]
def pParts (K : PySem.W.Frag) (CN : Addr) : V → V → V → V → Hp → VK → XK → Prop := fun a b c e H Q E => ∃ (r : Addr) (t p m s n pt : Int), a = .ref r ∧ b = .int s ∧ c = .int n ∧ e = .int pt ∧ SqT K H r [.int t, .int p, .int m] ∧ Rule t p m ∧ 0 ≤ n ∧ n ≤ 10000 ∧ 1 ≤ pt ∧ pt ≤ 10000000000000 ∧
  (0 ≤ s ∧ s < m → ∀ H' q, Same H H' → H q = none → H' q = some (.tup ((prts t p m n.toNat s pt).map V.int)) → Q (.ref q) H') ∧ (¬ (0 ≤ s ∧ s < m) → Bad CN s H E)
def pTold19 (K : PySem.W.Frag) (CN : Addr) : V → V → V → V → Hp → VK → XK → Prop := fun a b c e H Q _ => ∃ (r : Addr) (t p m s n pt : Int), a = .ref r ∧ b = .int s ∧ c = .int n ∧ e = .int pt ∧ SqT K H r [.int t, .int p, .int m] ∧ Rule t p m ∧ 0 ≤ n ∧ n ≤ 10000 ∧ 1 ≤ pt ∧ pt ≤ 10000000000000 ∧
  (0 ≤ s ∧ s < m → ∀ H' l q, Same H H' → H' l = some (.lst [.ref q, .non]) → H' q = some (.tup ((prts t p m n.toNat s pt).map V.int)) → Q (.ref l) H') ∧
  (¬ (0 ≤ s ∧ s < m) → ∀ H' l x dd, Same H H' → H' l = some (.lst [.non, .ref x]) → H' x = some (exv x (.ref CN) (some dd)) → H' dd = some (.xd [("number", .int s)]) → Q (.ref l) H')
def pIsNumB (CN : Addr) : V → V → Hp → VK → XK → Prop := fun a b H Q _ => ∃ (x dd : Addr) (n : Int), a = .ref x ∧ b = .int n ∧ H x = some (exv x (.ref CN) (some dd)) ∧ H dd = some (.xd [("number", .int n)]) ∧ ∀ H', Same H H' → Q (.bl true) H'
theorem Rule.pos {t p m : Int} (R : Rule t p m) : 0 < m := by have := R.b1; omega
end Tw
namespace Tw
open PySem PySem.Spec PyProof.Rows L2
/-- the row from s shows the parts ks -/
def shB (t p m pt : Int) (ks : List Int) (s : Int) : Bool := decide (∀ i, i < ks.length → itr (stp t p m) i s / pt = ks.getD i 0)
def stL (t p m pt : Int) (ks : List Int) : List Int := ((List.range m.toNat).map fun (k : Nat) => (k : Int)).filter (shB t p m pt ks)
theorem stL_len (t p m pt : Int) (ks : List Int) : (stL t p m pt ks).length ≤ m.toNat := by
  unfold stL
  refine Nat.le_trans (List.length_filter_le _ _) ?_
  rw [List.length_map, List.length_range]
  exact Nat.le_refl _
def pShows (K : PySem.W.Frag) : V → V → V → V → Hp → VK → XK → Prop := fun a b c e H Q _ => ∃ (r sq : Addr) (t p m s pt : Int) (ks : List Int), a = .ref r ∧ b = .int s ∧ c = .ref sq ∧ e = .int pt ∧ SqT K H r [.int t, .int p, .int m] ∧ Rule t p m ∧ 0 ≤ s ∧ s < m ∧ SqT K H sq (ks.map V.int) ∧ 1 ≤ pt ∧ pt ≤ 10000000000000 ∧ Q (.bl (shB t p m pt ks s)) H
/-- the seen may be a list -/
def pShowsL (K : PySem.W.Frag) : V → V → V → V → Hp → VK → XK → Prop := fun a b c e H Q _ => ∃ (r sq : Addr) (t p m s pt : Int) (ks : List Int), a = .ref r ∧ b = .int s ∧ c = .ref sq ∧ e = .int pt ∧ SqT K H r [.int t, .int p, .int m] ∧ Rule t p m ∧ 0 ≤ s ∧ s < m ∧ SqL K H sq (ks.map V.int) ∧ 1 ≤ pt ∧ pt ≤ 10000000000000 ∧ Q (.bl (shB t p m pt ks s)) H
def pStarts (K : PySem.W.Frag) : V → V → V → Hp → VK → XK → Prop := fun a b c H Q _ => ∃ (r sq : Addr) (t p m pt : Int) (ks : List Int), a = .ref r ∧ b = .ref sq ∧ c = .int pt ∧ SqT K H r [.int t, .int p, .int m] ∧ Rule t p m ∧ m ≤ 2000 ∧ SqT K H sq (ks.map V.int) ∧ 1 ≤ pt ∧ pt ≤ 10000000000000 ∧
  ∀ H' q, Same H H' → H q = none → H' q = some (.tup ((stL t p m pt ks).map V.int)) → Q (.ref q) H'
def pSpoil (K : PySem.W.Frag) : V → V → V → V → Hp → VK → XK → Prop := fun a b c e H Q _ => ∃ (d sq : Addr) (n : Nat) (m pt : Int) (ks : List Int), a = .ref d ∧ b = .ref sq ∧ c = .int m ∧ e = .int pt ∧ DeckB H d n ∧ n + 20 ≤ 100000000 ∧ SqT K H sq (ks.map V.int) ∧ 1 ≤ ks.length ∧ ks.length ≤ 60 ∧ 1 ≤ m ∧ m ≤ 1000000000000 ∧ 1 ≤ pt ∧ pt ≤ 10000000000000 ∧
  ∀ H' q (zs : List Int), But d H H' → DeckB H' d (n + 20) → H q = none → H' q = some (.tup (zs.map V.int)) → zs.length = ks.length → Q (.ref q) H'
theorem range_snoc (j : Nat) : (List.range (j + 1)).map (fun (k : Nat) => (k : Int)) = (List.range j).map (fun (k : Nat) => (k : Int)) ++ [(j : Int)] := by
  rw [List.range_succ, List.map_append]
  rfl
theorem shB_nil (t p m pt s : Int) : shB t p m pt [] s = true := decide_eq_true fun i hi => absurd hi (Nat.not_lt_zero _)
/-- all show what a part beyond the bound shows -/
theorem stL_all {t p m pt : Int} (h : m ≤ pt) : stL t p m pt [0] = (List.range m.toNat).map fun (k : Nat) => (k : Int) := by
  unfold stL
  refine List.filter_eq_self.mpr fun s hs => ?_
  obtain ⟨k, hk, rfl⟩ := List.mem_map.mp hs
  have := List.mem_range.mp hk
  refine decide_eq_true fun i hi => ?_
  have e : i = 0 := by simp at hi; omega
  subst e
  show ((k : Int)) / pt = 0
  exact Int.ediv_eq_zero_of_lt (by omega) (by omega)
theorem stL_none {t p m pt : Int} {ks : List Int} (m0 : 0 < m) (p0 : 1 ≤ pt) (h : ∃ i, i < ks.length ∧ (ks.getD i 0 < 0 ∨ m ≤ ks.getD i 0)) : stL t p m pt ks = [] := by
  unfold stL
  refine List.filter_eq_nil_iff.mpr fun s hs z => ?_
  obtain ⟨k, hk, rfl⟩ := List.mem_map.mp hs
  have hk' := List.mem_range.mp hk
  obtain ⟨i, hi, hb⟩ := h
  have e := of_decide_eq_true z i hi
  have r := itr_rng (t := t) (p := p) m0 (s := (k : Int)) ⟨by omega, by omega⟩ i
  have h1 : 0 ≤ itr (stp t p m) i k / pt := Int.ediv_nonneg r.1 (by omega)
  have h2 : itr (stp t p m) i k / pt ≤ itr (stp t p m) i k := Int.ediv_le_self _ r.1
  omega
end Tw

/-! Rules of any bound drawn of a deck; renamings. -/
namespace Tw
open PySem PySem.Spec PyProof.Rows L2
section
variable {P : Program} {w : World} {K : PySem.W.Frag} {mg : Str → Option Value} {base : Heap} {x : Str} {st : Stmt} {N : List Str} {k : Nat}
def sp5 (p : V → V → V → V → V → Hp → VK → XK → Prop) : Sp := fun vs H Q E => ∃ a b c d e, vs = [a, b, c, d, e] ∧ p a b c d e H Q E
theorem Top.ok5 {a b c d e : Str} {p : V → V → V → V → V → Hp → VK → XK → Prop} (D : Top K mg x st [a, b, c, d, e]) (S : FnScope N [a, b, c, d, e] (defScope st))
    (hbody : ∀ (f : Addr) (cdv : Value) (A : Around) (outer : List Env) (s : Shared) (H : Hp) (v1 v2 v3 v4 v5 : V) (Q : VK) (E : XK), Room k (A.deeper (envOfC x (defScope st) s.heap.objs.size f cdv)) → p v1 v2 v3 v4 v5 H Q E →
      ∃ t, PSs (cxOf CX0 P w K mg base N x (defScope st) f cdv A outer s H E).nox (defBody st) t ∧ t { nx := fun _ H' => Q .non H', rt := Q } (start N [v1, v2, v3, v4, v5]) H) : Has P w K mg base CX0 (k + 1) x [a, b, c, d, e] (sp5 p) :=
  D.ok S (fun vs H Q E h => by obtain ⟨_, _, _, _, _, rfl, _⟩ := h; rfl) (fun f cdv A outer s H vs Q E hr h => by obtain ⟨v1, v2, v3, v4, v5, rfl, h⟩ := h; exact hbody f cdv A outer s H v1 v2 v3 v4 v5 Q E hr h)
theorem Top.ok5X {a b c d e : Str} {p : V → V → V → V → V → Hp → VK → XK → Prop} (D : Top K mg x st [a, b, c, d, e]) (S : FnScope N [a, b, c, d, e] (defScope st))
    (hbody : ∀ (f : Addr) (cdv : Value) (A : Around) (outer : List Env) (s : Shared) (H : Hp) (v1 v2 v3 v4 v5 : V) (Q : VK) (E : XK), Room k (A.deeper (envOfC x (defScope st) s.heap.objs.size f cdv)) → p v1 v2 v3 v4 v5 H Q E →
      ∃ t, PSs (cxOf (L2.CX P w) P w K mg base N x (defScope st) f cdv A outer s H E) (defBody st) t ∧ t { nx := fun _ H' => Q .non H', rt := Q } (start N [v1, v2, v3, v4, v5]) H) : Has P w K mg base (L2.CX P w) (k + 1) x [a, b, c, d, e] (sp5 p) :=
  D.okX S (fun vs H Q E h => by obtain ⟨_, _, _, _, _, rfl, _⟩ := h; rfl) (fun f cdv A outer s H vs Q E hr h => by obtain ⟨v1, v2, v3, v4, v5, rfl, h⟩ := h; exact hbody f cdv A outer s H v1 v2 v3 v4 v5 Q E hr h)
end
/-- the bits of a number from 1 on -/
theorem bits_pow {x : Int} (h : 1 ≤ x) : ∃ k : Nat, Builtin.Int.intBits x = k ∧ 0 < k ∧ (2 : Int) ^ (k - 1) ≤ x := by
  refine ⟨x.natAbs.log2 + 1, ?_, by omega, ?_⟩
  · unfold Builtin.Int.intBits
    rw [if_neg (by simp; omega)]
  · have h1 : 2 ^ x.natAbs.log2 ≤ x.natAbs := Nat.log2_self_le (by omega)
    have e1 : ((2 ^ x.natAbs.log2 : Nat) : Int) = (2 : Int) ^ x.natAbs.log2 := by norm_cast
    rw [show x.natAbs.log2 + 1 - 1 = x.natAbs.log2 by omega]
    omega
theorem bits_le {x : Int} (h : 1 ≤ x) (h2 : x ≤ 1000000000000) : Builtin.Int.intBits x ≤ 40 := by
  refine lt_bits ?_
  have e : (2 : Nat) ^ 40 = 1099511627776 := by decide
  omega
def pRuleC : V → V → Hp → VK → XK → Prop := fun a b H Q _ => ∃ (d : Addr) (n : Nat) (m : Int), a = .ref d ∧ b = .int m ∧ 60 ≤ m ∧ m ≤ 1000000000000 ∧ DeckB H d n ∧ n + 20 ≤ 100000000 ∧
  ∀ (H' : Hp) (r : Addr) (t p b : Int), But d H H' → DeckB H' d (n + 20) → H r = none → H' r = some (.tup [.int t, .int p, .int b]) → Rule t p b → b ≤ m → Q (.ref r) H'
/-! ### renamings -/
/-- a pair (u, v) that leads one rule to the other -/
def Leads (t1 p1 t2 p2 b u v : Int) : Prop := Int.gcd u b = 1 ∧ (u * t1) % b = (t2 * u) % b ∧ (u * p1 + v) % b = (t2 * v + p2) % b
instance {t1 p1 t2 p2 b u v : Int} : Decidable (Leads t1 p1 t2 p2 b u v) := by unfold Leads; infer_instance
def ldE (t1 p1 t2 p2 b u v n : Int) : Int := t2 * ((u * n + v) % b) + p2 - u * ((t1 * n + p1) % b) - v
theorem ldE_mod (t1 p1 t2 p2 b u v n : Int) : ldE t1 p1 t2 p2 b u v n % b = ((t2 * u - u * t1) * n + (t2 * v + p2 - (u * p1 + v))) % b := by
  have d1 := Int.mul_ediv_add_emod (u * n + v) b
  have d2 := Int.mul_ediv_add_emod (t1 * n + p1) b
  unfold ldE
  generalize (u * n + v) / b = q1 at *
  generalize (t1 * n + p1) / b = q2 at *
  generalize (u * n + v) % b = r1 at *
  generalize (t1 * n + p1) % b = r2 at *
  have e : t2 * r1 + p2 - u * r2 - v = ((t2 * u - u * t1) * n + (t2 * v + p2 - (u * p1 + v))) + b * (u * q2 - t2 * q1) := by
    have h1 : r1 = u * n + v - b * q1 := by omega
    have h2 : r2 = t1 * n + p1 - b * q2 := by omega
    subst h1 h2
    grind
  rw [e, Int.add_mul_emod_self_left]
theorem sub_mod {a c b : Int} : (a - c) % b = 0 ↔ c % b = a % b := by
  rw [eq_comm (a := c % b), Int.emod_eq_emod_iff_emod_sub_eq_zero]
theorem leads_all {t1 p1 t2 p2 b u v : Int} (h1 : (u * t1) % b = (t2 * u) % b) (h2 : (u * p1 + v) % b = (t2 * v + p2) % b) (n : Int) : ldE t1 p1 t2 p2 b u v n % b = 0 := by
  rw [ldE_mod]
  obtain ⟨c, hc⟩ := Int.dvd_of_emod_eq_zero (sub_mod.mpr h1)
  obtain ⟨d, hd⟩ := Int.dvd_of_emod_eq_zero (sub_mod.mpr h2)
  rw [hc, hd, show b * c * n + b * d = b * (c * n + d) by grind]
  exact Int.mul_emod_right b _
theorem leads_of {t1 p1 t2 p2 b u v : Int} (b0 : 0 < b) (h : ∀ n : Nat, n < b.toNat → ldE t1 p1 t2 p2 b u v n % b = 0) : (u * t1) % b = (t2 * u) % b ∧ (u * p1 + v) % b = (t2 * v + p2) % b := by
  have z0 := h 0 (by omega)
  rw [ldE_mod, show ((0 : Nat) : Int) = 0 from rfl, Int.mul_zero, Int.zero_add] at z0
  refine ⟨?_, sub_mod.mp z0⟩
  by_cases e : b = 1
  · subst e; rw [Int.emod_one, Int.emod_one]
  · have z1 := h 1 (by omega)
    rw [ldE_mod, show ((1 : Nat) : Int) = 1 from rfl, Int.mul_one] at z1
    refine sub_mod.mp ?_
    obtain ⟨c, hc⟩ := Int.dvd_of_emod_eq_zero z1
    obtain ⟨d, hd⟩ := Int.dvd_of_emod_eq_zero z0
    rw [show t2 * u - u * t1 = b * (c - d) by grind]
    exact Int.mul_emod_right b _
theorem leads_led {t p b u v : Int} (g : Int.gcd u b = 1) : Leads t p t ((u * p + v - t * v) % b) b u v := by
  refine ⟨g, by rw [Int.mul_comm], ?_⟩
  rw [Int.add_emod_emod]
  congr 1
  omega
theorem gcd_last {b : Int} (h : 1 ≤ b) : Int.gcd (b - 1) b = 1 := by
  have d : Int.gcd (b - 1) b ∣ 1 := by
    have a := Int.gcd_dvd_left (a := b - 1) (b := b)
    have c := Int.gcd_dvd_right (a := b - 1) (b := b)
    have e : ((Int.gcd (b - 1) b : Nat) : Int) ∣ 1 := by
      have := Int.dvd_sub c a
      rw [show b - (b - 1) = 1 by omega] at this
      exact this
    exact Int.natCast_dvd_natCast.mp (by simpa using e)
  exact Nat.dvd_one.mp d
/-- a drawn renaming and the rule that it leads to -/
def pLed (K : PySem.W.Frag) : V → V → Hp → VK → XK → Prop := fun a b H Q _ => ∃ (d r : Addr) (n : Nat) (t p m : Int), a = .ref d ∧ b = .ref r ∧ SqT K H r [.int t, .int p, .int m] ∧ Rule t p m ∧ DeckB H d n ∧ n + 2 ≤ 100000000 ∧
  ∀ (H' : Hp) (l r2 pr : Addr) (u v : Int), But d H H' → DeckB H' d (n + 2) → H l = none → H' l = some (.lst [.ref r2, .ref pr]) → H' r2 = some (.tup [.int t, .int ((u * p + v - t * v) % m), .int m]) → H' pr = some (.tup [.int u, .int v]) → 0 ≤ u → u < m → 0 ≤ v → v < m → Int.gcd u m = 1 → Q (.ref l) H'
def pLeads (K : PySem.W.Frag) : V → V → V → Hp → VK → XK → Prop := fun a b c H Q _ => ∃ (r1 r2 pr : Addr) (t1 p1 m t2 p2 m2 u v : Int), a = .ref r1 ∧ b = .ref r2 ∧ c = .ref pr ∧ SqT K H r1 [.int t1, .int p1, .int m] ∧ SqT K H r2 [.int t2, .int p2, .int m2] ∧ SqT K H pr [.int u, .int v] ∧ Rule t1 p1 m ∧ m ≤ 2000 ∧ 0 ≤ t2 ∧ t2 ≤ 2000 ∧ 0 ≤ p2 ∧ p2 ≤ 2000 ∧ 0 ≤ u ∧ u ≤ 2000 ∧ 0 ≤ v ∧ v ≤ 2000 ∧
  Q (.bl (decide (Leads t1 p1 t2 p2 m u v))) H
def pShown (K : PySem.W.Frag) : V → V → V → Hp → VK → XK → Prop := fun a b c H Q _ => ∃ (r1 r2 pr : Addr) (t1 p1 m t2 p2 m2 u v : Int), a = .ref r1 ∧ b = .ref r2 ∧ c = .ref pr ∧ SqT K H r1 [.int t1, .int p1, .int m] ∧ SqT K H r2 [.int t2, .int p2, .int m2] ∧ SqT K H pr [.int u, .int v] ∧ Rule t1 p1 m ∧ (m2 = m → Rule t2 p2 m) ∧ 0 ≤ u ∧ u < m ∧ 0 ≤ v ∧ v < m ∧
  ∀ H', Same H H' → Q (.bl (decide (m2 = m ∧ Leads t1 p1 t2 p2 m u v))) H'
/-! ### pairs in a list -/
def Prs (H : Hp) (m : Int) (as : List Addr) : Prop := ∀ a ∈ as, ∃ x y : Int, H a = some (.tup [.int x, .int y]) ∧ 0 ≤ x ∧ x < m ∧ 0 ≤ y ∧ y < m
theorem Prs.same {H H' : Hp} {m : Int} {as : List Addr} (h : Prs H m as) (s : Same H H') : Prs H' m as := fun a ha => by
  obtain ⟨x, y, e, z⟩ := h a ha
  exact ⟨x, y, s _ _ e, z⟩
theorem Prs.but {H H' : Hp} {d : Addr} {n : Nat} {m : Int} {as : List Addr} (h : Prs H m as) (D : DeckB H d n) (b : But d H H') : Prs H' m as := fun a ha => by
  obtain ⟨x, y, e, z⟩ := h a ha
  exact ⟨x, y, b _ _ (D.ne_tup e) e, z⟩
theorem Prs.new {H : Hp} {m x y : Int} {as : List Addr} {a : Addr} (h : Prs H m as) (na : H a = none) (x0 : 0 ≤ x) (x1 : x < m) (y0 : 0 ≤ y) (y1 : y < m) : Prs (upd H a (.tup [.int x, .int y])) m (as ++ [a]) := fun b hb => by
  rcases List.mem_append.mp hb with hb | hb
  · exact (h.same (same_new na)) b hb
  · rw [List.mem_singleton.mp hb]
    exact ⟨x, y, upd_same, x0, x1, y0, y1⟩
def PrL (H : Hp) (L : Addr) (m : Int) : Prop := ∃ as : List Addr, H L = some (.lst (as.map V.ref)) ∧ as.length ≤ 20 ∧ Prs H m as
theorem PrL.same {H H' : Hp} {L : Addr} {m : Int} (h : PrL H L m) (s : Same H H') : PrL H' L m := by
  obtain ⟨as, e, l, q⟩ := h
  exact ⟨as, s _ _ e, l, q.same s⟩
theorem PrL.ne {H : Hp} {L d : Addr} {n : Nat} {as : List Addr} (h : H L = some (.lst (as.map V.ref))) (D : DeckB H d n) : L ≠ d := fun z => by
  obtain ⟨g, x, k, e1, _⟩ := D
  rw [z, e1] at h
  cases as with
  | nil => cases h
  | cons _ _ => cases h
theorem PrL.but {H H' : Hp} {L d : Addr} {n : Nat} {m : Int} (h : PrL H L m) (D : DeckB H d n) (b : But d H H') : PrL H' L m := by
  obtain ⟨as, e, l, q⟩ := h
  exact ⟨as, b _ _ (PrL.ne e D) e, l, q.but D b⟩
def pPairs : V → V → V → Hp → VK → XK → Prop := fun a b c H Q _ => ∃ (d pr : Addr) (n : Nat) (m u v : Int), a = .ref d ∧ b = .int m ∧ c = .ref pr ∧ H pr = some (.tup [.int u, .int v]) ∧ 1 ≤ m ∧ m ≤ 2000 ∧ 0 ≤ u ∧ u < m ∧ 0 ≤ v ∧ v < m ∧ DeckB H d n ∧ n + 4 ≤ 100000000 ∧
  ∀ (H' : Hp) (l : Addr), But d H H' → DeckB H' d (n + 4) → H l = none → PrL H' l m → Q (.ref l) H'
def pOnce (K : PySem.W.Frag) : V → V → V → Hp → VK → XK → Prop := fun a b c H Q _ => ∃ (d r pr : Addr) (n : Nat) (t p m u v : Int), a = .ref d ∧ b = .ref r ∧ c = .ref pr ∧ SqT K H r [.int t, .int p, .int m] ∧ Rule t p m ∧ m ≤ 2000 ∧ SqT K H pr [.int u, .int v] ∧ 0 ≤ u ∧ u < m ∧ 0 ≤ v ∧ v < m ∧ DeckB H d n ∧ n + 3 ≤ 100000000 ∧
  ∀ (H' : Hp) (l : Addr) (t2 p2 : Int), But d H H' → DeckB H' d (n + 3) → H' l = some (.tup [.int t2, .int p2, .int m]) → Rule t2 p2 m → Q (.ref l) H'
/-- an item of a list of objects -/
theorem at_refs {as : List Addr} {v : Int} (h0 : 0 ≤ v) (h1 : v < as.length) : ∃ x, x ∈ as ∧ atI (as.map V.ref) v = some (.ref x) := by
  obtain ⟨j, rfl⟩ := Int.eq_ofNat_of_zero_le h0
  have jl : j < as.length := by omega
  refine ⟨as[j], List.getElem_mem jl, atI_nat ?_⟩
  rw [List.getElem?_map, List.getElem?_eq_getElem jl]
  rfl
theorem rget {as : List Addr} {i : Nat} {x : V} (h : (as.map V.ref)[i]? = some x) : ∃ a, a ∈ as ∧ x = .ref a := by
  rw [List.getElem?_map] at h
  cases e : as[i]? with
  | none => rw [e] at h; cases h
  | some a =>
    rw [e] at h
    cases h
    exact ⟨a, List.mem_of_getElem? e, rfl⟩
end Tw

/-! Comprehensions of several clauses: a loop for each depth, told by what a turn does. -/
namespace Tw
open PySem PySem.Spec PyProof.Rows L2

/-- the walk of one clause: each turn's body leads to the next, the last to Nx -/
def walkQ (J : It) (body : V → Hp → (Hp → Prop) → Prop) (H : Hp) (Nx : Hp → Prop) : Prop := ∃ W : Nat → Nat → Hp → Prop, (∃ m, W 0 m H) ∧ ∀ j k H, W j k H →
  (J.stop j H ∧ Nx H) ∨ (J.go j H ∧ ∃ N1 : Hp → Prop, (∀ H', N1 H' → ∃ k', k' < k ∧ W (j + 1) k' H') ∧ ∀ x H', J.yld j H x H' → body x H' N1)
/-- a turn of the last clause -/
def bodyE (g : TG) (tt : TT) (te : TE) (vs : List Nat) (D : Addr) (σ : L2.St) (x : V) (H' : Hp) (N : Hp → Prop) : Prop := g x (wipe σ vs) H' fun σ3 H5 => wipe σ3 vs = wipe σ vs ∧ tt σ3 H5 fun b H6 =>
  if b = true then te σ3 H6 fun y H7 => ∃ acc, H7 D = some (.lst acc) ∧ acc.length < sizeLine ∧ N (upd H7 D (.lst (acc ++ [y]))) else N H6
/-- a turn of a clause with another one behind it -/
def bodyM (g : TG) (tt : TT) (vs : List Nat) (wi1 : TI) (body1 : L2.St → V → Hp → (Hp → Prop) → Prop) (σ : L2.St) (x : V) (H' : Hp) (N : Hp → Prop) : Prop := g x (wipe σ vs) H' fun σ2 H2 => wipe σ2 vs = wipe σ vs ∧ tt σ2 H2 fun b H3 =>
  if b = true then wi1 σ2 H3 fun J1 H4 => walkQ J1 (body1 σ2) H4 N else N H3
def okPost (P : Shared → Prop) : Result → Shared → Prop := fun r s' => match r with
  | .ok _ => P s'
  | .error _ => False
/-- the loop at depth d does what its walk tells -/
def LoopOk (Y : Cx) (e : Expr) (d : Nat) (tg : Expr) (vs : List Nat) (D : Addr) (body : L2.St → V → Hp → (Hp → Prop) → Prop) : Prop :=
  ∀ (pins : List (Addr × Obj)) (σ : L2.St) (H : Hp) (s : Shared) (J : It) (fp : List Addr) (it : Addr) (tn : Nat → Heap → Prop) (Nx : Hp → Prop), Inv Y pins σ H s → Turn Y.prog Y.w Y.K tg J fp it tn → tn 0 s.heap → (∀ b ∈ fp, FpOk Y pins H b) → walkQ J (body σ) H Nx →
    codeAny (model Y.prog Y.w) Y.A (.compLoop e d (.ref it) (.ref D) Y.env) (okPost fun s' => ∃ H', Inv Y pins (wipe σ vs) H' s' ∧ Nx H') s
section
variable {elt : Expr} {gens : List Comprehension} {scope : Scope} {pos : Pos} {d : Nat} {tg iter tg1 iter1 : Expr} {ifs ifs1 : List Expr} {it acc : Value} {env : Env}
theorem turn_last (h0 : gens[d]? = some ⟨tg, iter, ifs, 0⟩) (h1 : gens[d + 1]? = none) : compTurn (.ListComp elt gens scope pos) d it acc env = (do
      standAt iter.pos
      match ← pyNext it with
      | none => pure (.done .next)
      | some v =>
        letOwnedTupleGo tg it v
        assign tg env v
        let mut ok := true
        for c in ifs do
          if ok then ok ← isTrue c env (eval c env)
        if ok then
          (do let _ ← call (.builtin "list.append") [acc, ← eval elt env])
        again (.compLoop (.ListComp elt gens scope pos) d it acc env)) := by
  unfold compTurn
  simp only [h0, h1]
  rfl
theorem turn_mid (h0 : gens[d]? = some ⟨tg, iter, ifs, 0⟩) (h1 : gens[d + 1]? = some ⟨tg1, iter1, ifs1, 0⟩) : compTurn (.ListComp elt gens scope pos) d it acc env = (do
      standAt iter.pos
      match ← pyNext it with
      | none => pure (.done .next)
      | some v =>
        letOwnedTupleGo tg it v
        assign tg env v
        let mut ok := true
        for c in ifs do
          if ok then ok ← isTrue c env (eval c env)
        if ok then
          let x ← eval iter1 env
          standAt iter1.pos
          let x ← foldedSetIterable iter1 env x
          let _ ← runOwn (.compStart (.ListComp elt gens scope pos) (d + 1) (← holding [x] (pyIter x)) acc env) env
        again (.compLoop (.ListComp elt gens scope pos) d it acc env)) := by
  unfold compTurn
  simp only [h0, h1]
  rfl
end
section
variable {Y : Cx} {elt : Expr} {gens : List Comprehension} {scope : Scope} {pos : Pos} {d : Nat} {tg iter tg1 iter1 : Expr} {ifs ifs1 : List Expr} {vs vs1 : List Nat} {D : Addr} {g : TG} {tt : TT} {te : TE}
/-- behind a turn: the iterator stands, the slots are as they were at its start -/
theorem turn_end {pins : List (Addr × Obj)} {σ σ4 : L2.St} {H' : Hp} {s3 s' : Shared} {J : It} {fp : List Addr} {it : Addr} {tn : Nat → Heap → Prop} {j : Nat} (T : Turn Y.prog Y.w Y.K tg J fp it tn) (st : tn (j + 1) s3.heap)
    (I' : Inv Y (pins ++ pinsAt fp s3.heap) σ4 H' s') (hl : (wipe σ vs).length = σ4.length) (hk : ∀ (i : Nat) v, (wipe σ vs)[i]? = some (some v) → σ4[i]? = some (some v)) : Inv Y pins (wipe σ vs) H' s' ∧ tn (j + 1) s'.heap ∧ ∀ b ∈ fp, H' b = none := by
  have pin : ∀ b ∈ fp, ∀ o, s3.heap.get? b = some o → s'.heap.get? b = some o ∧ H' b = none := fun b hb o e =>
    have z := I'.pin (b, o) (List.mem_append_right _ (List.mem_append_right _ (mem_pinsAt hb e)))
    ⟨z.1, z.2.1⟩
  refine ⟨I'.unpinned.weak hl hk, T.keep _ _ _ st fun b hb o e => (pin b hb o e).1, fun b hb => ?_⟩
  obtain ⟨o, e, _⟩ := T.obj _ _ st b hb
  exact (pin b hb o e).2
theorem loop_last (h0 : gens[d]? = some ⟨tg, iter, ifs, 0⟩) (h1 : gens[d + 1]? = none) (hc : Y.calm = true) (hx : Y.xe = fun _ _ => False) (pg : PG Y tg g) (pt : PTs Y ifs tt) (pe : PE Y elt te) : LoopOk Y (.ListComp elt gens scope pos) d tg vs D (bodyE g tt te vs D) := by
  intro pins σ H s J fp it tn Nx I T st f q
  obtain ⟨W, ⟨m0, w0⟩, turn⟩ := q
  have stat : ∀ {H' : Hp}, (∀ b ∈ fp, H' b = none) → ∀ b ∈ fp, FpOk Y pins H' b := fun hn b hb => ⟨hn b hb, (f b hb).2⟩
  refine codeAny_loop rfl (fun n s' => ∃ j H', Inv Y pins (wipe σ vs) H' s' ∧ tn j s'.heap ∧ (∀ b ∈ fp, H' b = none) ∧ W j n H') (fun n s1 hI => ?_) m0 ⟨0, H, I.weak (wipe_length _ _) (fun j v e => (wipe_some e).1), st, fun b hb => (f b hb).1, w0⟩
  obtain ⟨j, H1, I1, st1, n1, w1⟩ := hI
  show wpAny _ Y.A ((compTurn (.ListComp elt gens scope pos) d (.ref it) (.ref D) Y.env).onRaise (fun x => do noteFrame x Y.env; theTreesLotGoes x)) _ _ s1
  refine wpAny_noted ?_
  rw [turn_last h0 h1]
  refine wpAny_bind (wpAny_standAt (wpAny_bind ?_))
  rcases turn j n H1 w1 with ⟨stop, nx⟩ | ⟨go, N1, hN1, step⟩
  · refine thnF (T.done Y rfl rfl rfl hc j pins s1 (wipe σ vs) H1 (fun _ _ => False) I1 (stat n1) st1 stop) fun r s2 hh => ?_
    obtain ⟨hr, I2⟩ := hh
    subst hr
    exact wpAny_pure ⟨H1, I2, nx⟩
  · refine thnF (T.item Y rfl rfl rfl hc j pins s1 (wipe σ vs) H1 (fun _ _ => False) I1 (stat n1) st1 go) fun r s2 hh => ?_
    obtain ⟨u, hr, h2⟩ := hh
    subst hr
    refine wpAny_bind (thnF h2 fun _ s3 hh => ?_)
    obtain ⟨x, H3, I3, r3, y3, st3, n3⟩ := hh
    have I3' := I3.pinned (stat n3) (T.obj _ _ st3)
    refine wpAny_bind (thnF (hx ▸ pg.run _ s3 (wipe σ vs) H3 x u _ I3' r3 (step x H3 y3)) fun _ s4 hh => ?_)
    obtain ⟨σ4, H4, I4, hw4, q4⟩ := hh
    have fin : ∀ {s' : Shared} {H' : Hp}, Inv Y (pins ++ pinsAt fp s3.heap) σ4 H' s' → N1 H' → ∃ m, m < n ∧ ∃ j H', Inv Y pins (wipe σ vs) H' s' ∧ tn j s'.heap ∧ (∀ b ∈ fp, H' b = none) ∧ W j m H' := fun {s' H'} I' nx => by
      obtain ⟨m', hm, w'⟩ := hN1 H' nx
      obtain ⟨a, b, c⟩ := turn_end (σ := σ) (vs := vs) T st3 I' (by rw [← hw4, wipe_length]) (fun i v e => by rw [← hw4] at e; exact (wipe_some e).1)
      exact ⟨m', hm, j + 1, H', a, b, c, w'⟩
    refine wpAny_bind (thnF (hx ▸ pt.run _ s4 σ4 H4 _ I4 q4) fun b s5 hh => ?_)
    obtain ⟨H5, I5, q5⟩ := hh
    cases b with
    | false =>
      simp only [Bool.false_eq_true, if_false] at q5 ⊢
      exact wpAny_pure ⟨rfl, fin I5 q5⟩
    | true =>
      simp only [if_true] at q5 ⊢
      refine wpAny_bind (wpAny_bind (thnF (hx ▸ pe.run _ s5 σ4 H5 _ I5 q5) fun z s6 hh => ?_))
      obtain ⟨yv, H6, I6, r6, ac, hD6, hz6, nx⟩ := hh
      exact wpAny_bind (app_ok (X := Y) I6 hD6 hz6 r6 fun s7 I7 => wpAny_pure (wpAny_pure ⟨rfl, fin I7 nx⟩))
theorem start_at {prog : Program} {w : World} {A : Around} {R : Result → Shared → Prop} {s : Shared} {it acc : Value} {env : Env} (h0 : gens[d]? = some ⟨tg, iter, ifs, 0⟩) (hl : codeAny (model prog w) A (.compLoop (.ListComp elt gens scope pos) d it acc env) R s)
    (h : wpAny (model prog w) A (pyIter it) (fun it' s' => codeAny (model prog w) A (.compLoop (.ListComp elt gens scope pos) d it' acc env) R s') (notedBy (model prog w) A env fun x s' => R (.error x) s') s) :
    codeAny (model prog w) A (.compStart (.ListComp elt gens scope pos) d it acc env) R s := by
  refine codeAny_of_tree ?_
  show wpAny _ _ ((compStart (.ListComp elt gens scope pos) d it acc env).onRaise (fun x => do noteFrame x env; standAt theWindowsPlace)) _ _ s
  refine wpAny_notedAt ?_
  have ec : clausesOf (.ListComp elt gens scope pos) = gens := rfl
  unfold compStart
  rw [ec, h0]
  show wpAny _ _ (ask >>= _) _ _ s
  refine wpAny_bind (wpAny_askSetting (wpAny_ite ?_))
  split
  · exact wpAny_pure ⟨rfl, hl⟩
  · refine wpAny_bind (wpAny_rule ?_)
    exact wpAny_bind (wpAny_standAt (wpAny_bind (wpAny_mono h (fun it' s' h' => wpAny_pure ⟨rfl, h'⟩) fun _ _ x => x)))
theorem loop_mid {wi1 : TI} {body1 : L2.St → V → Hp → (Hp → Prop) → Prop} (h0 : gens[d]? = some ⟨tg, iter, ifs, 0⟩) (h1 : gens[d + 1]? = some ⟨tg1, iter1, ifs1, 0⟩) (hc : Y.calm = true) (hx : Y.xe = fun _ _ => False) (hv : ∀ i ∈ vs1, i ∈ vs) (pg : PG Y tg g) (pt : PTs Y ifs tt) (pi1 : PI Y tg1 iter1 wi1) (hs1 : ∀ x, foldedSetIterable iter1 Y.env x = pure x)
    (inner : LoopOk Y (.ListComp elt gens scope pos) (d + 1) tg1 vs1 D body1) : LoopOk Y (.ListComp elt gens scope pos) d tg vs D (bodyM g tt vs wi1 body1) := by
  intro pins σ H s J fp it tn Nx I T st f q
  obtain ⟨W, ⟨m0, w0⟩, turn⟩ := q
  have stat : ∀ {H' : Hp}, (∀ b ∈ fp, H' b = none) → ∀ b ∈ fp, FpOk Y pins H' b := fun hn b hb => ⟨hn b hb, (f b hb).2⟩
  refine codeAny_loop rfl (fun n s' => ∃ j H', Inv Y pins (wipe σ vs) H' s' ∧ tn j s'.heap ∧ (∀ b ∈ fp, H' b = none) ∧ W j n H') (fun n s1 hI => ?_) m0 ⟨0, H, I.weak (wipe_length _ _) (fun j v e => (wipe_some e).1), st, fun b hb => (f b hb).1, w0⟩
  obtain ⟨j, H1, I1, st1, n1, w1⟩ := hI
  show wpAny _ Y.A ((compTurn (.ListComp elt gens scope pos) d (.ref it) (.ref D) Y.env).onRaise (fun x => do noteFrame x Y.env; theTreesLotGoes x)) _ _ s1
  refine wpAny_noted ?_
  rw [turn_mid h0 h1]
  refine wpAny_bind (wpAny_standAt (wpAny_bind ?_))
  rcases turn j n H1 w1 with ⟨stop, nx⟩ | ⟨go, N1, hN1, step⟩
  · refine thnF (T.done Y rfl rfl rfl hc j pins s1 (wipe σ vs) H1 (fun _ _ => False) I1 (stat n1) st1 stop) fun r s2 hh => ?_
    obtain ⟨hr, I2⟩ := hh
    subst hr
    exact wpAny_pure ⟨H1, I2, nx⟩
  · refine thnF (T.item Y rfl rfl rfl hc j pins s1 (wipe σ vs) H1 (fun _ _ => False) I1 (stat n1) st1 go) fun r s2 hh => ?_
    obtain ⟨u, hr, h2⟩ := hh
    subst hr
    refine wpAny_bind (thnF h2 fun _ s3 hh => ?_)
    obtain ⟨x, H3, I3, r3, y3, st3, n3⟩ := hh
    have I3' := I3.pinned (stat n3) (T.obj _ _ st3)
    refine wpAny_bind (thnF (hx ▸ pg.run _ s3 (wipe σ vs) H3 x u _ I3' r3 (step x H3 y3)) fun _ s4 hh => ?_)
    obtain ⟨σ4, H4, I4, hw4, q4⟩ := hh
    have fin : ∀ {σ5 : L2.St} {s' : Shared} {H' : Hp}, Inv Y (pins ++ pinsAt fp s3.heap) σ5 H' s' → (wipe σ vs).length = σ5.length → (∀ (i : Nat) v, (wipe σ vs)[i]? = some (some v) → σ5[i]? = some (some v)) → N1 H' → ∃ m, m < n ∧ ∃ j H', Inv Y pins (wipe σ vs) H' s' ∧ tn j s'.heap ∧ (∀ b ∈ fp, H' b = none) ∧ W j m H' := fun {σ5 s' H'} I' hl hk nx => by
      obtain ⟨m', hm, w'⟩ := hN1 H' nx
      obtain ⟨a, b, c⟩ := turn_end (σ := σ) (vs := vs) T st3 I' hl hk
      exact ⟨m', hm, j + 1, H', a, b, c, w'⟩
    have l4 : (wipe σ vs).length = σ4.length := by rw [← hw4, wipe_length]
    refine wpAny_bind (thnF (hx ▸ pt.run _ s4 σ4 H4 _ I4 q4) fun b s5 hh => ?_)
    obtain ⟨H5, I5, q5⟩ := hh
    cases b with
    | false =>
      simp only [Bool.false_eq_true, if_false] at q5 ⊢
      exact wpAny_pure ⟨rfl, fin I5 l4 (fun i v e => by rw [← hw4] at e; exact (wipe_some e).1) q5⟩
    | true =>
      simp only [if_true] at q5 ⊢
      refine wpAny_bind (thnF (hx ▸ pi1.run _ s5 σ4 H5 _ I5 q5) fun xv s6 hh => ?_)
      refine wpAny_bind (wpAny_standAt (wpAny_bind (wpAny_of_eq (hs1 xv) (wpAny_bind (wpAny_holding (thnF hh fun itv s7 h7 => ?_))))))
      obtain ⟨it1, fp1, tn1, J1, H7, e1, I7, T1, st7, f7, q7⟩ := h7
      subst e1
      refine wpAny_bind (wpAny_runOwn ?_)
      rw [Around.mark_none]
      have lp := inner (pins ++ pinsAt fp s3.heap) σ4 H7 s7 J1 fp1 it1 tn1 N1 I7 T1 st7 f7 q7
      refine codeAny_mono (start_at h1 lp (T1.self Y.A 0 _ _ _ st7 lp)) fun r s8 hr => ?_
      cases r with
      | ok fl =>
        obtain ⟨H8, I8, nx⟩ := hr
        have z := fin I8 (l4.trans (wipe_length σ4 vs1).symm) (fun i v e => by
          rw [← hw4] at e
          obtain ⟨a1, a2⟩ := wipe_some e
          rw [wipe_out fun y => a2 (hv i y)]
          exact a1) nx
        first
          | exact wpAny_pure ⟨rfl, z⟩
          | exact wpAny_bind (wpAny_pure (wpAny_pure ⟨rfl, z⟩))
      | error e => exact hr.elim
end
end Tw

/-! Comprehensions of several clauses, as a value and stored in a name. -/
namespace Tw
open PySem PySem.Spec PyProof.Rows L2
section
variable {X : Cx} {elt tg iter : Expr} {ifs : List Expr} {rest : List Comprehension} {scope : Scope} {own : List (Str × Nat)} {pos pos' : Pos} {wi : TI} {body : Addr → L2.St → V → Hp → (Hp → Prop) → Prop}
def tLcN (wi : TI) (body : Addr → L2.St → V → Hp → (Hp → Prop) → Prop) (vs : List Nat) : TE := fun σ H Q => wi σ H fun J H1 => ∀ D, H1 D = none → walkQ J (body D (wipe σ vs)) (upd H1 D (.lst [])) (Q (.ref D))
theorem lcN_core {pins : List (Addr × Obj)} {s : Shared} {σ : L2.St} {H : Hp} {Q : VK} {use : Option (Value → Sem Unit)} {Qf : Value → Shared → Prop} (hc : X.calm = true) (hN : X.N.Nodup) (I : Inv X pins σ H s) (hi : PI X tg iter wi) (ok : BlkOk X.N X.env.scope scope own) (hs : ∀ x, foldedSetIterable iter X.env x = pure x)
    (lp : ∀ (s3 : Shared) (H3 : Hp) (C : Addr) (cl : List (Str × Addr)) (fp : List Addr) (D : Addr), LoopOk (X.blk s3 H3 scope (compEnvC scope cl C X.env) fp) (.ListComp elt (⟨tg, iter, ifs, 0⟩ :: rest) scope pos) 0 tg (own.map (·.2)) D (body D))
    (h : tLcN wi body (own.map (·.2)) σ H Q)
    (hR : ∀ D C s' m H', Inv X pins σ H' s' → Q (.ref D) H' → s'.heap.Ns C m → FpOk X pins H' C → compPost (model X.prog X.w) X.A X.xe use Qf (.ref D) C (.ok .next) s') :
    wpAny (model X.prog X.w) X.A (comprehension (.ListComp elt (⟨tg, iter, ifs, 0⟩ :: rest) scope pos) scope X.env pos' (newList []) false (eval iter X.env) use) Qf X.xe s := by
  have hf : ∀ y ∈ scope.names, y.2 = .free → ∃ c, X.env.cells.lookup y.1 = some c := fun y hy e => (ok.free y hy e).elim (fun k => I.ok.has _ (.inl k)) (fun k => I.ok.has _ (.inr k))
  refine wpAny_comprehension_free (use := use) rfl hs (closure_ok hf) ok.kind (fun y hy e => by rw [ok.uniq y hy, e]) (thn (hi.run pins s σ H _ I h) fun xv s1 hx => thn hx fun itv s2 h2 => ?_)
  obtain ⟨it, fp, tn, J, Hb, e, Ib, T, stb, fb, q⟩ := h2
  subst e
  refine wpAny_newObj_type (newEnv_comp ?_) (by show 0 ≤ sizeLine; decide)
  have q' := q s2.heap.objs.size (Ib.hok.fresh (Nat.le_refl _))
  obtain ⟨sc, esc⟩ : ∃ sc : Shared, sc = { s2 with heap := s2.heap.push { cls := .type "list", data := .seq ([] : List Value).toArray } } := ⟨_, rfl⟩
  have hh : sc.heap = s2.heap.push { cls := .type "list", data := .seq ([] : List Value).toArray } := by rw [esc]
  have Ic : Inv X pins σ (upd Hb s2.heap.objs.size (.lst [])) sc := by
    rw [esc]
    exact Ib.laid (t' := s2.toks) (fun b o e => Heap.get?_push_of_some _ e) (Nat.le_refl _) ⟨Nat.zero_le _, [], 0, .nil, Heap.get?_push_size _ rfl⟩
  have small : ∀ b ∈ fp, b < s2.heap.objs.size := fun b hb => by
    obtain ⟨o, e, _⟩ := T.obj _ _ stb b hb
    exact Heap.lt_size e
  have fc : ∀ b ∈ fp, FpOk X pins (upd Hb s2.heap.objs.size (.lst [])) b ∧ b < sc.heap.objs.size := fun b hb => by
    have lt := small b hb
    refine ⟨⟨?_, (fb b hb).2⟩, by rw [hh, Heap.size_push]; exact Nat.lt_succ_of_lt lt⟩
    rw [upd_ne (Nat.ne_of_lt lt)]
    exact (fb b hb).1
  have stc : tn 0 sc.heap := T.keep _ _ _ stb fun b _ o e => by rw [hh]; exact Heap.get?_push_of_some _ e
  have Id := block_start Ic ok hN fc
  have L := lp sc (upd Hb s2.heap.objs.size (.lst [])) sc.heap.objs.size (cellsFrom (sc.heap.objs.size + 1) scope.names (cloFrom X.env.cells scope.names [])) fp s2.heap.objs.size
  rw [← esc]
  obtain ⟨sd, esd⟩ : ∃ sd : Shared, sd = { sc with heap := pushCells (sc.heap.push { cls := .type "dict", data := .dict #[] }) scope.names } := ⟨_, rfl⟩
  have std : tn 0 sd.heap := T.keep _ _ _ stc fun b _ o e => by rw [esd]; exact pushCells_keeps _ _ _ _ (Heap.get?_push_of_some _ e)
  rw [← esd] at Id
  have fd : ∀ b ∈ fp, FpOk (X.blk sc (upd Hb s2.heap.objs.size (.lst [])) scope (compEnvC scope (cellsFrom (sc.heap.objs.size + 1) scope.names (cloFrom X.env.cells scope.names [])) sc.heap.objs.size X.env) fp) [] (upd Hb s2.heap.objs.size (.lst [])) b := fun b hb =>
    ⟨(fc b hb).1.1, (Id.ok.exf b hb).1, Id.ok.exfs b hb, .inl hb, fun x c e => (Id.ok.exf b hb).2 x c e, fun p hp => absurd (show p ∈ ([] : List (Addr × Obj)) ++ [] from hp) (by simp)⟩
  have R := L [] _ _ sd J fp it tn (Q (.ref s2.heap.objs.size)) Id T std fd q'
  have loop : codeAny (model X.prog X.w) X.A (.compLoop (.ListComp elt (⟨tg, iter, ifs, 0⟩ :: rest) scope pos) 0 (.ref it) (.ref s2.heap.objs.size) (compEnvC scope (cellsFrom (sc.heap.objs.size + 1) scope.names (cloFrom X.env.cells scope.names [])) sc.heap.objs.size X.env)) (compPost (model X.prog X.w) X.A X.xe use Qf (.ref s2.heap.objs.size) sc.heap.objs.size) sd := by
    refine codeAny_mono R fun r s' hr => ?_
    cases r with
    | error e => exact hr.elim
    | ok fl =>
      obtain ⟨H', I', qq⟩ := hr
      have I7 : Inv X pins σ H' s' := Ic.call' (ch := fp) I'.os I'.base I'.hok I'.bare fun b hb => ⟨(fc b hb).1.2.2.2.1, (fc b hb).1.2.1, (fc b hb).1.2.2.2.2.1, (fc b hb).1.2.2.2.2.2⟩
      have nC : H' sc.heap.objs.size = none := I'.free
      obtain ⟨m, hn, _⟩ := I'.loc
      have hn' : s'.heap.Ns sc.heap.objs.size m := hn
      have z := hR s2.heap.objs.size sc.heap.objs.size s' m H' I7 qq hn' (Ic.fpOk (Nat.le_refl _) nC)
      cases use with
      | none => exact z
      | some u => exact z
  rw [← esd]
  exact codeAny_compStart_list loop (T.self X.A 0 _ _ _ std loop)
theorem ps_setLcN {i : Nat} {y : Str} {py spos : Pos} (hc : X.calm = true) (hN : X.N.Nodup) (hy : X.N[i]? = some y) (hyl : X.env.scope.names.lookup y = some .local)
    (hsw : swapsWith (.ListComp elt (⟨tg, iter, ifs, 0⟩ :: rest) scope pos) (some (.Name y py)) spos.line X.env = pure true) (hi : PI X tg iter wi) (ok : BlkOk X.N X.env.scope scope own)
    (lp : ∀ (s3 : Shared) (H3 : Hp) (C : Addr) (cl : List (Str × Addr)) (fp : List Addr) (D : Addr), LoopOk (X.blk s3 H3 scope (compEnvC scope cl C X.env) fp) (.ListComp elt (⟨tg, iter, ifs, 0⟩ :: rest) scope pos) 0 tg (own.map (·.2)) D (body D))
    (hs : ∀ x, foldedSetIterable iter X.env x = pure x := by intro _; rfl) : PS X (.Assign [.Name y py] (.ListComp elt (⟨tg, iter, ifs, 0⟩ :: rest) scope pos) spos) (tAsg (tLcN wi body (own.map (·.2))) (gName i)) := by
  refine ⟨fun pins s σ H D I h => ?_⟩
  rw [exec_Assign_Name_used _ _ _ _ hsw]
  refine wpAny_bind (wpAny_standAt (wpAny_bind ?_))
  have h' : tLcN wi body (own.map (·.2)) σ H (fun x H1 => gName i x σ H1 D.nx) := h
  refine wpAny_bind (thn (lcN_core (Qf := fun _ s' => SP X pins D .next s') hc hN I hi ok hs lp h' fun L C s' m H' I' q hn f => ?_) fun _ s' hq => wpAny_pure (wpAny_pure hq))
  show wpAny _ _ (assign (.Name y py) X.env (.ref L)) _ _ _
  refine wpAny_assign_Name (store_ok2 (v := V.ref L) I' hN hy (.inl hyl) rfl (fun s2 I2 hh => ?_) (.inr hyl))
  obtain ⟨a, sb, ha⟩ := hh
  obtain ⟨f0, f1, f2, f3, f4, f5⟩ := f
  have ne : C ≠ a := by
    rcases ha with z | z
    · rw [z]; exact f1
    · exact fun e => f4 y a z e.symm
  refine ⟨m, hn.sameBut sb ne, fun h3 sb3 => ?_⟩
  exact ⟨_, H', I2.turned (t' := s2.toks) (fun b o hb e => (sb3.2 b hb).trans e) f0 f1 f3 f4 f5, q⟩
end
/-- three clauses -/
theorem loop3 {Y : Cx} {elt t0 i0 t1 i1 t2 i2 : Expr} {f0 f1 f2 : List Expr} {scope : Scope} {pos : Pos} {D : Addr} {g0 g1 g2 : TG} {tt0 tt1 tt2 : TT} {te : TE} {wi1 wi2 : TI} {vs vs1 vs2 : List Nat} (hc : Y.calm = true) (hx : Y.xe = fun _ _ => False) (hv1 : ∀ i ∈ vs1, i ∈ vs) (hv2 : ∀ i ∈ vs2, i ∈ vs1)
    (p0 : PG Y t0 g0) (q0 : PTs Y f0 tt0) (r1 : PI Y t1 i1 wi1) (k1 : ∀ x, foldedSetIterable i1 Y.env x = pure x) (p1 : PG Y t1 g1) (q1 : PTs Y f1 tt1) (r2 : PI Y t2 i2 wi2) (k2 : ∀ x, foldedSetIterable i2 Y.env x = pure x) (p2 : PG Y t2 g2) (q2 : PTs Y f2 tt2) (pe : PE Y elt te) :
    LoopOk Y (.ListComp elt [⟨t0, i0, f0, 0⟩, ⟨t1, i1, f1, 0⟩, ⟨t2, i2, f2, 0⟩] scope pos) 0 t0 vs D (bodyM g0 tt0 vs wi1 (bodyM g1 tt1 vs1 wi2 (bodyE g2 tt2 te vs2 D))) :=
  loop_mid (d := 0) rfl rfl hc hx hv1 p0 q0 r1 k1 (loop_mid (d := 1) rfl rfl hc hx hv2 p1 q1 r2 k2 (loop_last (d := 2) rfl rfl hc hx p2 q2 pe))
/-- a walk by a count of turns -/
theorem walkQ_it {J : It} {n : Nat} {G : Hp → Prop} {Yw : Nat → Hp → V → Hp → Prop} (w : Walk J n G Yw) {body : V → Hp → (Hp → Prop) → Prop} {H : Hp} {Nx : Hp → Prop} (Pv : Nat → Hp → Prop) (h0 : Pv 0 H) (hG : ∀ i H, i ≤ n → Pv i H → G H) (hs : ∀ i x H H', i < n → Pv i H → Yw i H x H' → body x H' (Pv (i + 1))) (hd : ∀ H, Pv n H → Nx H) : walkQ J body H Nx := by
  refine ⟨fun i m H => m = n - i ∧ i ≤ n ∧ Pv i H, ⟨n, by simp, Nat.zero_le _, h0⟩, ?_⟩
  rintro i m H ⟨rfl, hi, p⟩
  have q := hG i H hi p
  by_cases hlt : i < n
  · exact .inr ⟨w.goes i H hlt q, Pv (i + 1), fun H' p' => ⟨n - (i + 1), by omega, rfl, hlt, p'⟩, fun x H' y => hs i x H H' hlt p (w.yields i H x H' hlt q y)⟩
  · have e : i = n := by omega
    subst e
    exact .inl ⟨w.stops H q, hd H p⟩
end Tw

/-! Rules with a start, counted, with the first of them. -/
namespace Tw
open PySem PySem.Spec PyProof.Rows L2
theorem pi_tupK {X : Cx} {tg l : Expr} {tl : TE} {K : PySem.W.Frag} (hK : X.K = K) (hl : PE X l tl) : PI X tg l (iTup K tl) := by
  subst hK
  exact pi_tup hl
theorem ps_setLc3 {X : Cx} {elt t0 i0 t1 i1 t2 i2 : Expr} {f0 f1 f2 : List Expr} {scope : Scope} {own : List (Str × Nat)} {pos : Pos} {wi : TI} {g0 g1 g2 : TG} {tt0 tt1 tt2 : TT} {te : TE} {wi1 wi2 : TI} {i : Nat} {y : Str} {py spos : Pos} (vs1 vs2 : List Nat) (hc : X.calm = true) (hN : X.N.Nodup) (hy : X.N[i]? = some y) (hyl : X.env.scope.names.lookup y = some .local)
    (hsw : swapsWith (.ListComp elt [⟨t0, i0, f0, 0⟩, ⟨t1, i1, f1, 0⟩, ⟨t2, i2, f2, 0⟩] scope pos) (some (.Name y py)) spos.line X.env = pure true) (hi : PI X t0 i0 wi) (ok : BlkOk X.N X.env.scope scope own)
    (hv1 : ∀ i ∈ vs1, i ∈ own.map (·.2)) (hv2 : ∀ i ∈ vs2, i ∈ vs1)
    (p0 : ∀ (s3 : Shared) (H3 : Hp) (C : Addr) (cl : List (Str × Addr)) (fp : List Addr), PG (X.blk s3 H3 scope (compEnvC scope cl C X.env) fp) t0 g0) (q0 : ∀ (s3 : Shared) (H3 : Hp) (C : Addr) (cl : List (Str × Addr)) (fp : List Addr), PTs (X.blk s3 H3 scope (compEnvC scope cl C X.env) fp) f0 tt0) (r1 : ∀ (s3 : Shared) (H3 : Hp) (C : Addr) (cl : List (Str × Addr)) (fp : List Addr), PI (X.blk s3 H3 scope (compEnvC scope cl C X.env) fp) t1 i1 wi1) (k1 : ∀ (s3 : Shared) (H3 : Hp) (C : Addr) (cl : List (Str × Addr)) (fp : List Addr), ∀ x, foldedSetIterable i1 (compEnvC scope cl C X.env) x = pure x) (p1 : ∀ (s3 : Shared) (H3 : Hp) (C : Addr) (cl : List (Str × Addr)) (fp : List Addr), PG (X.blk s3 H3 scope (compEnvC scope cl C X.env) fp) t1 g1) (q1 : ∀ (s3 : Shared) (H3 : Hp) (C : Addr) (cl : List (Str × Addr)) (fp : List Addr), PTs (X.blk s3 H3 scope (compEnvC scope cl C X.env) fp) f1 tt1) (r2 : ∀ (s3 : Shared) (H3 : Hp) (C : Addr) (cl : List (Str × Addr)) (fp : List Addr), PI (X.blk s3 H3 scope (compEnvC scope cl C X.env) fp) t2 i2 wi2) (k2 : ∀ (s3 : Shared) (H3 : Hp) (C : Addr) (cl : List (Str × Addr)) (fp : List Addr), ∀ x, foldedSetIterable i2 (compEnvC scope cl C X.env) x = pure x) (p2 : ∀ (s3 : Shared) (H3 : Hp) (C : Addr) (cl : List (Str × Addr)) (fp : List Addr), PG (X.blk s3 H3 scope (compEnvC scope cl C X.env) fp) t2 g2) (q2 : ∀ (s3 : Shared) (H3 : Hp) (C : Addr) (cl : List (Str × Addr)) (fp : List Addr), PTs (X.blk s3 H3 scope (compEnvC scope cl C X.env) fp) f2 tt2) (pe : ∀ (s3 : Shared) (H3 : Hp) (C : Addr) (cl : List (Str × Addr)) (fp : List Addr), PE (X.blk s3 H3 scope (compEnvC scope cl C X.env) fp) elt te)
    (hs : ∀ x, foldedSetIterable i0 X.env x = pure x := by intro _; rfl) : PS X (.Assign [.Name y py] (.ListComp elt [⟨t0, i0, f0, 0⟩, ⟨t1, i1, f1, 0⟩, ⟨t2, i2, f2, 0⟩] scope pos) spos) (tAsg (tLcN wi (fun D => bodyM g0 tt0 (own.map (·.2)) wi1 (bodyM g1 tt1 vs1 wi2 (bodyE g2 tt2 te vs2 D))) (own.map (·.2))) (gName i)) :=
  ps_setLcN hc hN hy hyl hsw hi ok (fun s3 H3 C cl fp D => loop3 hc rfl hv1 hv2 (p0 s3 H3 C cl fp) (q0 s3 H3 C cl fp) (r1 s3 H3 C cl fp) (k1 s3 H3 C cl fp) (p1 s3 H3 C cl fp) (q1 s3 H3 C cl fp) (r2 s3 H3 C cl fp) (k2 s3 H3 C cl fp) (p2 s3 H3 C cl fp) (q2 s3 H3 C cl fp) (pe s3 H3 C cl fp)) hs
def tri1 (b pt : Int) (ks : List Int) (t p : Nat) : List (List Int) := (stL t p b pt ks).map fun s => [(t : Int), (p : Int), s]
def triR (b pt : Int) (ks : List Int) (t : Nat) : List (List Int) := (List.range b.toNat).flatMap (tri1 b pt ks t)
def triA (b pt : Int) (ks : List Int) : List (List Int) := (List.range b.toNat).flatMap (triR b pt ks)
theorem fm_len {f : Nat → List (List Int)} {n c : Nat} (h : ∀ k, (f k).length ≤ c) : ((List.range n).flatMap f).length ≤ n * c := by
  induction n with
  | zero => simp
  | succ n ih =>
    rw [List.range_succ, List.flatMap_append, List.length_append, Nat.succ_mul]
    have : ([n].flatMap f).length ≤ c := by simpa using h n
    omega
theorem fm_snoc (f : Nat → List (List Int)) (n : Nat) : (List.range (n + 1)).flatMap f = (List.range n).flatMap f ++ f n := by
  rw [List.range_succ, List.flatMap_append]
  simp
theorem tri1_len (b pt : Int) (ks : List Int) (t p : Nat) : (tri1 b pt ks t p).length ≤ b.toNat := by
  unfold tri1
  rw [List.length_map]
  exact stL_len ..
theorem triR_len (b pt : Int) (ks : List Int) (t : Nat) : (triR b pt ks t).length ≤ b.toNat * b.toNat := fm_len (tri1_len b pt ks t)
/-- a list of triples: as many, and the first -/
def HdL (H : Hp) (D : Addr) (ts : List (List Int)) : Prop := ∃ as : List Addr, H D = some (.lst (as.map V.ref)) ∧ as.length = ts.length ∧ ∀ a z, as.head? = some a → ts.head? = some z → H a = some (.tup (z.map V.int))
theorem HdL.nil {H : Hp} {D : Addr} (h : H D = some (.lst [])) : HdL H D [] := ⟨[], h, rfl, fun a z e => by cases e⟩
theorem HdL.same {H H' : Hp} {D : Addr} {ts : List (List Int)} (h : HdL H D ts) (s : Same H H') : HdL H' D ts := by
  obtain ⟨as, e, l, f⟩ := h
  exact ⟨as, s _ _ e, l, fun a z x y => s _ _ (f a z x y)⟩
theorem HdL.other {H : Hp} {D E : Addr} {o : HO} {xs : List V} {ts : List (List Int)} (h : HdL H D ts) (hE : H E = some (.lst xs)) (n : D ≠ E) : HdL (upd H E o) D ts := by
  obtain ⟨as, e, l, f⟩ := h
  refine ⟨as, by rw [upd_ne n]; exact e, l, fun a z x y => ?_⟩
  have k := f a z x y
  rw [upd_ne (fun q => by rw [q, hE] at k; cases k)]
  exact k
theorem HdL.push {H : Hp} {D a : Addr} {ts : List (List Int)} {z : List Int} (h : HdL H D ts) (ha : H a = some (.tup (z.map V.int))) : ∃ acc, H D = some (.lst acc) ∧ acc.length = ts.length ∧ HdL (upd H D (.lst (acc ++ [.ref a]))) D (ts ++ [z]) := by
  obtain ⟨as, e, l, f⟩ := h
  refine ⟨_, e, by rw [List.length_map, l], as ++ [a], by rw [upd_same, List.map_append]; rfl, by simp [l], fun b y hb hy => ?_⟩
  have k : H b = some (.tup (y.map V.int)) := by
    cases as with
    | nil =>
      cases ts with
      | nil => simp at hb hy; subst hb hy; exact ha
      | cons _ _ => simp at l
    | cons c as =>
      cases ts with
      | nil => simp at l
      | cons t ts => exact f b y (by simpa using hb) (by simpa using hy)
  rw [upd_ne (fun q => by rw [q, e] at k; cases k)]
  exact k
theorem HdL.ext {H : Hp} {D E : Addr} {ts us : List (List Int)} (h : HdL H D ts) (g : HdL H E us) : ∃ xs zs, H D = some (.lst xs) ∧ H E = some (.lst zs) ∧ xs.length = ts.length ∧ zs.length = us.length ∧ HdL (upd H D (.lst (xs ++ zs))) D (ts ++ us) := by
  obtain ⟨as, e, l, f⟩ := h
  obtain ⟨bs, e2, l2, f2⟩ := g
  refine ⟨_, _, e, e2, by rw [List.length_map, l], by rw [List.length_map, l2], as ++ bs, by rw [upd_same, List.map_append], by simp [l, l2], fun b y hb hy => ?_⟩
  have k : H b = some (.tup (y.map V.int)) := by
    cases as with
    | nil =>
      cases ts with
      | nil => exact f2 b y (by simpa using hb) (by simpa using hy)
      | cons _ _ => simp at l
    | cons c as =>
      cases ts with
      | nil => simp at l
      | cons t ts => exact f b y (by simpa using hb) (by simpa using hy)
  rw [upd_ne (fun q => by rw [q, e] at k; cases k)]
  exact k
/-- the first of a list of triples, or none -/
def Fst (H : Hp) (x : V) (ts : List (List Int)) : Prop := (ts = [] ∧ x = .non) ∨ ∃ a z us, ts = z :: us ∧ x = .ref a ∧ H a = some (.tup (z.map V.int))
theorem Fst.same {H H' : Hp} {x : V} {ts : List (List Int)} (h : Fst H x ts) (s : Same H H') : Fst H' x ts := by
  rcases h with h | ⟨a, z, us, e, e2, k⟩
  · exact .inl h
  · exact .inr ⟨a, z, us, e, e2, s _ _ k⟩
theorem HdL.parts {H : Hp} {D : Addr} {ts : List (List Int)} (h : HdL H D ts) : ∃ xs, H D = some (.lst xs) ∧ xs.length = ts.length ∧ ((ts = [] ∧ xs = []) ∨ ∃ a ys z us, xs = .ref a :: ys ∧ ts = z :: us ∧ H a = some (.tup (z.map V.int))) := by
  obtain ⟨as, e, l, f⟩ := h
  refine ⟨_, e, by rw [List.length_map, l], ?_⟩
  cases as with
  | nil =>
    cases ts with
    | nil => exact .inl ⟨rfl, rfl⟩
    | cons _ _ => simp at l
  | cons c as =>
    cases ts with
    | nil => simp at l
    | cons t ts => exact .inr ⟨c, as.map V.ref, t, ts, rfl, rfl, f c t rfl rfl⟩
def pRulesP (K : PySem.W.Frag) : V → V → V → Hp → VK → XK → Prop := fun a b c H Q _ => ∃ (sq : Addr) (m pt : Int) (ks : List Int), a = .int m ∧ b = .ref sq ∧ c = .int pt ∧ 1 ≤ m ∧ m ≤ 12 ∧ SqT K H sq (ks.map V.int) ∧ 1 ≤ pt ∧ pt ≤ 10000000000000 ∧
  ∀ H' q x, Same H H' → H q = none → H' q = some (.tup [.int ((triA m pt ks).length : Nat), x]) → Fst H' x (triA m pt ks) → Q (.ref q) H'
/-- the seen is a list -/
def pDue22 (K : PySem.W.Frag) : V → V → V → Hp → VK → XK → Prop := fun a b c H Q _ => ∃ (sq : Addr) (m pt : Int) (ks : List Int), a = .int m ∧ b = .ref sq ∧ c = .int pt ∧ 1 ≤ m ∧ m ≤ 12 ∧ H sq = some (.lst (ks.map V.int)) ∧ 1 ≤ pt ∧ pt ≤ 10000000000000 ∧
  ∀ H' q x, Same H H' → H q = none → H' q = some (.tup [.int ((triA m pt ks).length : Nat), x]) → Fst H' x (triA m pt ks) → Q (.ref q) H'
/-- both the same: whole numbers, none, or tuples of them -/
def pSame12 (K : PySem.W.Frag) : V → V → Hp → VK → XK → Prop := fun a b H Q E => pSame1 a b H Q E ∨ pSame2 K a b H Q E
def pSame3 (K : PySem.W.Frag) : V → V → Hp → VK → XK → Prop := fun a b H Q _ => ∃ (p q : Addr) (n : Int) (x y : V) (ts : List (List Int)), a = .ref p ∧ b = .ref q ∧ H p = some (.tup [.int n, x]) ∧ H q = some (.tup [.int n, y]) ∧ Fst H x ts ∧ Fst H y ts ∧ ∀ H', Same H H' → Q (.bl true) H'
theorem triA_len12 {m pt : Int} {ks : List Int} (h : m ≤ 12) : (triA m pt ks).length ≤ 1728 := by
  have a := fm_len (n := m.toNat) (triR_len m pt ks)
  have b : m.toNat ≤ 12 := by omega
  have c : m.toNat * m.toNat ≤ 144 := Nat.mul_le_mul b b
  have d : m.toNat * (m.toNat * m.toNat) ≤ 12 * 144 := Nat.mul_le_mul b c
  exact Nat.le_trans a d
theorem triA_none {m pt : Int} {ks : List Int} (m0 : 0 < m) (p0 : 1 ≤ pt) (h : ∃ i, i < ks.length ∧ (ks.getD i 0 < 0 ∨ m ≤ ks.getD i 0)) : triA m pt ks = [] := by
  have e : ∀ t p : Nat, tri1 m pt ks t p = [] := fun t p => by unfold tri1; rw [stL_none m0 p0 h]; rfl
  have r : ∀ t : Nat, triR m pt ks t = [] := fun t => by
    unfold triR
    exact List.flatMap_eq_nil_iff.mpr fun p _ => e t p
  unfold triA
  exact List.flatMap_eq_nil_iff.mpr fun t _ => r t
theorem fm_const {f : Nat → List (List Int)} {n c : Nat} (h : ∀ k, (f k).length = c) : ((List.range n).flatMap f).length = n * c := by
  induction n with
  | zero => simp
  | succ n ih => rw [fm_snoc, List.length_append, ih, h n, Nat.succ_mul]
theorem triA_all {m pt : Int} (m0 : 0 < m) (h : m ≤ pt) : (((triA m pt [0]).length : Nat) : Int) = m * m * m ∧ ∃ us, triA m pt [0] = [0, 0, 0] :: us := by
  have e : ∀ t p : Nat, (tri1 m pt [0] t p).length = m.toNat := fun t p => by unfold tri1; rw [List.length_map, stL_all h, List.length_map, List.length_range]
  have r : ∀ t : Nat, (triR m pt [0] t).length = m.toNat * m.toNat := fun t => fm_const (e t)
  have a : (triA m pt [0]).length = m.toNat * (m.toNat * m.toNat) := fm_const r
  obtain ⟨k, rfl⟩ := Int.eq_ofNat_of_zero_le (by omega : 0 ≤ m)
  constructor
  · rw [a]
    simp [Int.mul_assoc]
  · obtain ⟨j, rfl⟩ : ∃ j, k = j + 1 := ⟨k - 1, by omega⟩
    unfold triA triR tri1
    rw [show ((j + 1 : Nat) : Int).toNat = j + 1 by omega, List.range_succ_eq_map]
    rw [List.flatMap_cons, List.flatMap_cons, stL_all h, show ((j + 1 : Nat) : Int).toNat = j + 1 by omega, List.range_succ_eq_map]
    exact ⟨_, rfl⟩
theorem shp_cnt (n : Int) : SeqAt.shaped (.tuple [.int n, .tuple [.int 0, .int 0, .int 0]]) = true := rfl
theorem shp_no : SeqAt.shaped (.tuple [.int 0, .none]) = true := rfl
end Tw

/-! The first renaming. -/
namespace Tw
open PySem PySem.Spec PyProof.Rows L2
theorem leads_t {t1 p1 t2 p2 b u v : Int} (a0 : 0 ≤ t1) (a1 : t1 < b) (c0 : 0 ≤ t2) (c1 : t2 < b) (h : Leads t1 p1 t2 p2 b u v) : t1 = t2 := by
  obtain ⟨g, e, _⟩ := h
  have d := Int.dvd_of_emod_eq_zero (Int.emod_eq_emod_iff_emod_sub_eq_zero.mp e)
  rw [show u * t1 - t2 * u = u * (t1 - t2) by grind] at d
  have e4 : b.natAbs ∣ (t1 - t2).natAbs := by
    have h1 := Int.natAbs_dvd_natAbs.mpr d
    rw [Int.natAbs_mul] at h1
    exact Nat.Coprime.dvd_of_dvd_mul_left (show Nat.Coprime b.natAbs u.natAbs from Nat.Coprime.symm g) h1
  have e5 : (t1 - t2).natAbs = 0 := Nat.eq_zero_of_dvd_of_lt e4 (by omega)
  omega
theorem ifBoth {c : Bool} {A B : Prop} (h1 : B → A) (h2 : B) : if c = true then A else B := by
  cases c
  · exact h2
  · exact h1 h2
theorem mod0 {a b m : Int} (h : a % m = b % m) : a % m = 0 ↔ b % m = 0 := by rw [h]
/-- as the next one of a rule of one times fewer -/
theorem leads_bef {t p p2 m u y : Int} (m0 : 0 < m) (g : Int.gcd u m = 1) : Leads t p t p2 m u y ↔ ((t - 1) % m * y + p2 - u * p % m) % m = 0 := by
  have d1 := Int.mul_ediv_add_emod (t - 1) m
  have d2 := Int.mul_ediv_add_emod (u * p) m
  generalize (t - 1) / m = q1 at *
  generalize (t - 1) % m = r1 at *
  generalize (u * p) / m = q2 at *
  generalize hr : (u * p) % m = r2 at *
  have e : r1 * y + p2 - r2 = (t * y + p2 - (u * p + y)) + m * (q2 - q1 * y) := by
    have h1 : r1 = t - 1 - m * q1 := by omega
    have h2 : r2 = u * p - m * q2 := by omega
    rw [h1, h2]
    grind
  rw [e, Int.add_mul_emod_self_left, sub_mod]
  unfold Leads
  constructor
  · rintro ⟨_, _, h⟩; exact h
  · intro h; exact ⟨g, by rw [Int.mul_comm], h⟩
/-- as the seconds of the law -/
theorem leads_sec {t p p2 m u y : Int} (g : Int.gcd u m = 1) : Leads t p t p2 m u y ↔ (y - t * y) % m = (p2 - u * p) % m := by
  have e : (u * p + y) % m = (t * y + p2) % m ↔ (y - t * y) % m = (p2 - u * p) % m := by
    rw [Int.emod_eq_emod_iff_emod_sub_eq_zero, Int.emod_eq_emod_iff_emod_sub_eq_zero, show y - t * y - (p2 - u * p) = u * p + y - (t * y + p2) by omega]
  unfold Leads
  constructor
  · rintro ⟨_, _, h⟩; exact e.mp h
  · intro h; exact ⟨g, by rw [Int.mul_comm], e.mpr h⟩
/-- the first pair, or none -/
def FstP (t1 p1 t2 p2 b : Int) : Option (Int × Int) → Prop
  | some (u, v) => 0 ≤ u ∧ u < b ∧ 0 ≤ v ∧ v < b ∧ Leads t1 p1 t2 p2 b u v ∧ ∀ x y, 0 ≤ x → x < b → 0 ≤ y → y < b → Leads t1 p1 t2 p2 b x y → u < x ∨ (u = x ∧ v ≤ y)
  | none => ∀ x y, 0 ≤ x → x < b → 0 ≤ y → y < b → ¬ Leads t1 p1 t2 p2 b x y
theorem FstP.uniq {t1 p1 t2 p2 b : Int} {r s : Option (Int × Int)} (h : FstP t1 p1 t2 p2 b r) (k : FstP t1 p1 t2 p2 b s) : r = s := by
  rcases r with _ | ⟨u, v⟩ <;> rcases s with _ | ⟨x, y⟩
  · rfl
  · obtain ⟨a, b, c, d, e, _⟩ := k; exact absurd e (h _ _ a b c d)
  · obtain ⟨a, b, c, d, e, _⟩ := h; exact absurd e (k _ _ a b c d)
  · obtain ⟨a, b, c, d, e, f⟩ := h
    obtain ⟨a', b', c', d', e', f'⟩ := k
    have h1 := f _ _ a' b' c' d' e'
    have h2 := f' _ _ a b c d e
    have e1 : u = x := by omega
    have e2 : v = y := by omega
    rw [e1, e2]
/-- a pair or None, in the heap -/
def PV (H : Hp) (v : V) : Option (Int × Int) → Prop
  | some (x, y) => ∃ q, v = .ref q ∧ H q = some (.tup [.int x, .int y])
  | none => v = .non
theorem PV.same {H H' : Hp} {v : V} {r : Option (Int × Int)} (h : PV H v r) (s : Same H H') : PV H' v r := by
  rcases r with _ | ⟨u, w⟩
  · exact h
  · obtain ⟨q, e, k⟩ := h; exact ⟨q, e, s _ _ k⟩
theorem PV.but {H H' : Hp} {v : V} {d : Addr} {n : Nat} {r : Option (Int × Int)} (h : PV H v r) (D : DeckB H d n) (b : But d H H') : PV H' v r := by
  rcases r with _ | ⟨u, w⟩
  · exact h
  · obtain ⟨q, e, k⟩ := h; exact ⟨q, e, b _ _ (D.ne_tup k) k⟩
def pLeast (K : PySem.W.Frag) : V → V → V → Hp → VK → XK → Prop := fun a b c H Q _ => ∃ (r1 r2 : Addr) (t p m t2 p2 u : Int), a = .ref r1 ∧ b = .ref r2 ∧ c = .int u ∧ SqT K H r1 [.int t, .int p, .int m] ∧ SqT K H r2 [.int t2, .int p2, .int m] ∧ Rule t p m ∧ 0 ≤ p2 ∧ p2 < m ∧ 0 ≤ u ∧ u < m ∧
  (∀ v, 0 ≤ v → v < m → Leads t p t p2 m u v → (∀ y, 0 ≤ y → y < v → ¬ Leads t p t p2 m u y) → ∀ H', Same H H' → Q (.int v) H') ∧ ((∀ v, ¬ Leads t p t p2 m u v) → ∀ H', Same H H' → Q .non H')
def pRen (K : PySem.W.Frag) : V → V → Hp → VK → XK → Prop := fun a b H Q _ => ∃ (r1 r2 : Addr) (t1 p1 m1 t2 p2 m2 : Int), a = .ref r1 ∧ b = .ref r2 ∧ SqT K H r1 [.int t1, .int p1, .int m1] ∧ SqT K H r2 [.int t2, .int p2, .int m2] ∧
  (m1 ≠ m2 → Q .non H) ∧ (m1 = m2 → Rule t1 p1 m1 ∧ Rule t2 p2 m1 ∧ m1 ≤ 2000 ∧ ∀ r, FstP t1 p1 t2 p2 m1 r → ∀ H' v, Same H H' → PV H' v r → Q v H')
/-- the law's own -/
def pFst (K : PySem.W.Frag) : V → V → Hp → VK → XK → Prop := fun a b H Q _ => ∃ (r1 r2 : Addr) (t1 p1 m t2 p2 : Int), a = .ref r1 ∧ b = .ref r2 ∧ SqT K H r1 [.int t1, .int p1, .int m] ∧ SqT K H r2 [.int t2, .int p2, .int m] ∧
  Rule t1 p1 m ∧ Rule t2 p2 m ∧ m ≤ 2000 ∧ ∀ r, FstP t1 p1 t2 p2 m r → ∀ H' v, Same H H' → PV H' v r → Q v H'
def pOther (K : PySem.W.Frag) : V → V → Hp → VK → XK → Prop := fun a b H Q _ => ∃ (d r : Addr) (n : Nat) (t p m : Int), a = .ref d ∧ b = .ref r ∧ SqT K H r [.int t, .int p, .int m] ∧ Rule t p m ∧ DeckB H d n ∧ n + 6 ≤ 100000000 ∧
  ∀ (H' : Hp) (q : Addr) (t2 p2 : Int), But d H H' → DeckB H' d (n + 6) → H' q = some (.tup [.int t2, .int p2, .int m]) → Rule t2 p2 m → Q (.ref q) H'
/-- seconds by what they are wanted for, the least -/
def Sec (kv : List (Key × V)) (t lo m : Int) : Prop := ∀ x : Int, (valV kv (Sum.inl x) = none → ∀ s, lo ≤ s → s < m → (s - t * s) % m ≠ x) ∧
  ∀ y, valV kv (Sum.inl x) = some y → ∃ s, y = .int s ∧ lo ≤ s ∧ s < m ∧ (s - t * s) % m = x ∧ ∀ s', lo ≤ s' → s' < s → (s' - t * s') % m ≠ x
theorem Sec.put {kv : List (Key × V)} {t lo m : Int} (h : Sec kv t lo m) (hl : lo ≤ m) : Sec (putK kv (Sum.inl ((lo - 1 - t * (lo - 1)) % m)) (.int (lo - 1))) t (lo - 1) m := by
  intro x
  rw [valV_put]
  by_cases e : x = (lo - 1 - t * (lo - 1)) % m
  · rw [if_pos (by rw [e])]
    refine ⟨(fun z => by cases z), fun y z => ?_⟩
    cases z
    exact ⟨lo - 1, rfl, by omega, by omega, e.symm, fun s' a b => by omega⟩
  · rw [if_neg (fun z => e (Sum.inl.inj z))]
    obtain ⟨h1, h2⟩ := h x
    refine ⟨fun z s a b => ?_, fun y z => ?_⟩
    · by_cases es : s = lo - 1
      · rw [es]; exact fun q => e q.symm
      · exact h1 z s (by omega) b
    · obtain ⟨s, a, b, c, d, f⟩ := h2 y z
      refine ⟨s, a, by omega, c, d, fun s' a' b' => ?_⟩
      by_cases es : s' = lo - 1
      · rw [es]; exact fun q => e q.symm
      · exact f s' (by omega) b'
theorem putK_le (c : List (Key × V)) (k : Key) (x : V) : (putK c k x).length ≤ c.length + 1 := by
  unfold putK
  by_cases e : (c.any fun kv => decide (kv.1 = k)) = true
  · rw [if_pos e, List.length_map]
    omega
  · rw [if_neg e, List.length_append]
    simp
def dOp : Option (Int × Int) → PyData
  | some (x, y) => .tuple ([x, y].map PyData.int)
  | none => .none
theorem dOp_shp (r : Option (Int × Int)) : SeqAt.shaped (dOp r) = true := by
  rcases r with _ | ⟨x, y⟩
  · rfl
  · exact shp_ints [x, y]
theorem PV.dp {K : PySem.W.Frag} {H : Hp} {v : V} {r : Option (Int × Int)} (h : PV H v r) : Dp K H v (dOp r) := by
  rcases r with _ | ⟨x, y⟩
  · obtain rfl : v = .non := h
    exact .non
  · obtain ⟨q, rfl, e⟩ := h
    exact .tup (SqT.of e) (dp_ints [x, y])
theorem PV.same12 {K : PySem.W.Frag} {H : Hp} {v z : V} {r : Option (Int × Int)} {Q : VK} {E : XK} (h : PV H v r) (k : PV H z r) (q : ∀ H', Same H H' → Q (.bl true) H') : pSame12 K v z H Q E := by
  rcases r with _ | ⟨x, y⟩
  · obtain rfl : v = .non := h
    obtain rfl : z = .non := k
    exact .inl (.inr ⟨rfl, rfl, q _ (fun _ _ z => z)⟩)
  · obtain ⟨a, rfl, e⟩ := h
    obtain ⟨b, rfl, e'⟩ := k
    exact .inr ⟨a, b, [x, y], rfl, rfl, e, e', q⟩
theorem Sec.nil (t m : Int) : Sec [] t m m := fun x => ⟨fun _ s a b => by omega, fun y z => by cases z⟩
end Tw

/-! Rules that are alike: their rows, rounds and all rounds; pairs by their order. -/
namespace Tw
open PySem PySem.Spec PyProof.Rows L2
/-! ### a > b of pairs of whole numbers -/
def gtP (p q r s : Int) : Bool := decide (r < p ∨ (r = p ∧ s < q))
def rGtT (K : PySem.W.Frag) : R2 := fun x y H Q => ∃ (a b : Addr) (p q r s : Int), x = .ref a ∧ y = .ref b ∧ SqT K H a [.int p, .int q] ∧ SqT K H b [.int r, .int s] ∧ Q (.bl (gtP p q r s)) H
theorem lt_two (r s p q : Int) : PySem.W.dataLt (.tuple [.int r, .int s]) (.tuple [.int p, .int q]) = gtP p q r s := by
  unfold PySem.W.dataLt gtP
  show PyProof.Rows.lexLt itemOrd [Sum.inl 1, Sum.inl r, Sum.inl 1, Sum.inl s, Sum.inl 0] [Sum.inl 1, Sum.inl p, Sum.inl 1, Sum.inl q, Sum.inl 0] = _
  rw [lex_self (O := itemOrd)]
  by_cases e : r = p
  · subst e
    rw [lex_self (O := itemOrd), lex_self (O := itemOrd)]
    by_cases e2 : s = q
    · subst e2
      rw [lex_self (O := itemOrd), lex_self (O := itemOrd)]
      simp [PyProof.Rows.lexLt]
    · rw [lex_diff (O := itemOrd) (by simpa using e2)]
      show decide (s < q) = _
      simp
  · rw [lex_diff (O := itemOrd) (by simpa using e)]
    show decide (r < p) = _
    simp [e]
theorem op_gtT {X : Cx} (hu : X.A.units + 64 < cLine) : OpR X (compareOp .Gt) (rGtT X.K) := by
  intro pins s σ H x y v u Q I rx ry h
  obtain ⟨a, b, p, q, r, t, rfl, rfl, ha, hb, k⟩ := h
  obtain ⟨as, r1⟩ := Dp.reads I (.tuple ([p, q].map PyData.int)) _ v (.tup ha (dp_ints [p, q])) rx
  obtain ⟨bs, r2⟩ := Dp.reads I (.tuple ([r, t].map PyData.int)) _ u (.tup hb (dp_ints [r, t])) ry
  refine PySem.W.gt_data r1 r2 rfl (fun z => nomatch z) (Nat.lt_of_le_of_lt (Nat.add_le_add_left (Nat.le_trans (Nat.min_le_left _ _) (show _ ≤ 64 from ?_)) _) hu) ?_
  · show PyData.depth (.tuple [.int p, .int q]) ≤ 64
    simp [PyData.depth, PyData.depthAll]
  · have e := lt_two r t p q
    show ∃ _, _
    refine ⟨.bl (gtP p q r t), H, I, ?_, k⟩
    rw [← e]
    rfl
theorem orb_gDe (f : Int → Int) {n i : Nat} (x : Int) (h : i < n) : (orb f n x).getD i 0 = itr f i x := by
  rw [List.getD_eq_getElem?_getD, orb_get f x h]
  rfl
/-! ### new names -/
def nam (u v b x : Int) : Int := (u * x + v) % b
structure Cj (f g φ : Int → Int) (m : Int) : Prop where
  fr : ∀ x, 0 ≤ x → x < m → 0 ≤ f x ∧ f x < m
  pr : ∀ x, 0 ≤ x → x < m → 0 ≤ φ x ∧ φ x < m
  inj : ∀ x y, 0 ≤ x → x < m → 0 ≤ y → y < m → φ x = φ y → x = y
  cj : ∀ x, 0 ≤ x → x < m → φ (f x) = g (φ x)
theorem cj_leads {t1 p1 t2 p2 b u v : Int} (b0 : 0 < b) (h : Leads t1 p1 t2 p2 b u v) : Cj (stp t1 p1 b) (stp t2 p2 b) (nam u v b) b where
  fr := fun x _ _ => stp_rng b0 x
  pr := fun x _ _ => mod_bd _ b0
  inj := fun x y x0 x1 y0 y1 e => by
    have d : b ∣ (u * x + v) - (u * y + v) := Int.dvd_of_emod_eq_zero (Int.emod_eq_emod_iff_emod_sub_eq_zero.mp e)
    rw [show (u * x + v) - (u * y + v) = u * (x - y) by grind] at d
    have d2 : b ∣ x - y := by
      have hc : Nat.Coprime b.natAbs u.natAbs := by have g := h.1; rw [Int.gcd_comm] at g; exact g
      have d3 := Int.natAbs_dvd_natAbs.mpr d
      rw [Int.natAbs_mul] at d3
      exact Int.natAbs_dvd_natAbs.mp (hc.dvd_of_dvd_mul_left d3)
    obtain ⟨k, hk⟩ := d2
    have k0 : k = 0 := by
      by_cases c : k = 0
      · exact c
      · rcases Int.lt_or_gt_of_ne c with c | c
        · have : b * k ≤ b * (-1) := Int.mul_le_mul_of_nonneg_left (by omega) (by omega)
          omega
        · have : b * 1 ≤ b * k := Int.mul_le_mul_of_nonneg_left (by omega) (by omega)
          omega
    subst k0
    omega
  cj := fun x _ _ => by
    have e := leads_all h.2.1 h.2.2 x
    unfold ldE at e
    show (u * ((t1 * x + p1) % b) + v) % b = (t2 * ((u * x + v) % b) + p2) % b
    refine sub_mod.mp ?_
    rw [← e]
    congr 1
    omega
theorem Cj.itr {f g φ : Int → Int} {m : Int} (h : Cj f g φ m) {x : Int} (x0 : 0 ≤ x) (x1 : x < m) : ∀ n, (0 ≤ itr f n x ∧ itr f n x < m) ∧ itr g n (φ x) = φ (itr f n x)
  | 0 => ⟨⟨x0, x1⟩, rfl⟩
  | n + 1 => by
    obtain ⟨a, b⟩ := h.itr x0 x1 n
    refine ⟨h.fr _ a.1 a.2, ?_⟩
    show g (Tw.itr g n (φ x)) = φ (f (Tw.itr f n x))
    rw [b, h.cj _ a.1 a.2]
theorem Cj.orb {f g φ : Int → Int} {m : Int} (h : Cj f g φ m) {x : Int} (x0 : 0 ≤ x) (x1 : x < m) (n : Nat) : orb g n (φ x) = (orb f n x).map φ := by
  unfold Tw.orb
  rw [List.map_map]
  refine List.map_congr_left fun i _ => ?_
  exact (h.itr x0 x1 i).2
theorem Cj.mem {f g φ : Int → Int} {m : Int} (h : Cj f g φ m) {ws : List Int} (rg : Rng m ws) {x : Int} (x0 : 0 ≤ x) (x1 : x < m) : φ x ∈ ws.map φ ↔ x ∈ ws := by
  constructor
  · intro z
    obtain ⟨y, hy, e⟩ := List.mem_map.mp z
    have := rg y hy
    rw [← h.inj _ _ this.1 this.2 x0 x1 e]
    exact hy
  · exact fun z => List.mem_map.mpr ⟨x, z, rfl⟩
theorem Cj.wk {f g φ : Int → Int} {m : Int} (h : Cj f g φ m) : ∀ (k : Nat) (ws : List Int) (x : Int), Rng m ws → 0 ≤ x → x < m → wk g k (ws.map φ) (φ x) = ((wk f k ws x).1.map φ, φ (wk f k ws x).2) ∧ Rng m (wk f k ws x).1 ∧ 0 ≤ (wk f k ws x).2 ∧ (wk f k ws x).2 < m
  | 0, ws, x, rg, x0, x1 => ⟨rfl, rg, x0, x1⟩
  | k + 1, ws, x, rg, x0, x1 => by
    by_cases c : x ∈ ws
    · rw [wk_in c, wk_in ((h.mem rg x0 x1).mpr c)]
      exact ⟨rfl, rg, x0, x1⟩
    · rw [wk_out c, wk_out (fun z => c ((h.mem rg x0 x1).mp z)), ← h.cj x x0 x1]
      have r := h.fr x x0 x1
      have := Cj.wk h k (ws ++ [x]) (f x) (rng_snoc rg ⟨x0, x1⟩) r.1 r.2
      rw [List.map_append] at this
      exact this
theorem Cj.idx {f g φ : Int → Int} {m : Int} (h : Cj f g φ m) {x : Int} (x0 : 0 ≤ x) (x1 : x < m) : ∀ {ws : List Int}, Rng m ws → (ws.map φ).idxOf (φ x) = ws.idxOf x
  | [], _ => rfl
  | w :: ws, rg => by
    rw [List.map_cons, List.idxOf_cons, List.idxOf_cons]
    have rw0 := rg w List.mem_cons_self
    by_cases e : w = x
    · subst e
      simp
    · have ne : φ w ≠ φ x := fun z => e (h.inj _ _ rw0.1 rw0.2 x0 x1 z)
      rw [beq_eq_false_iff_ne.mpr e, beq_eq_false_iff_ne.mpr ne, h.idx x0 x1 (fun y hy => rg y (List.mem_cons_of_mem _ hy))]
theorem Cj.round {t1 p1 t2 p2 m : Int} {φ : Int → Int} (h : Cj (stp t1 p1 m) (stp t2 p2 m) φ m) {s : Int} (s0 : 0 ≤ s) (s1 : s < m) : rndT t2 p2 m (φ s) = rndT t1 p1 m s ∧ rndL t2 p2 m (φ s) = rndL t1 p1 m s := by
  have W := h.wk (m.toNat + 1) [] s (fun x hx => by cases hx) s0 s1
  have e : rndW t2 p2 m (φ s) = ((rndW t1 p1 m s).1.map φ, φ (rndW t1 p1 m s).2) := W.1
  have hT : rndT t2 p2 m (φ s) = rndT t1 p1 m s := by
    have i := h.idx W.2.2.1 W.2.2.2 W.2.1
    unfold rndT
    rw [e]
    exact congrArg (fun (n : Nat) => (n : Int)) i
  refine ⟨hT, ?_⟩
  unfold rndL
  rw [hT, e, List.length_map]
theorem Cj.per {f g φ : Int → Int} {m : Int} (h : Cj f g φ m) {x : Int} (x0 : 0 ≤ x) (x1 : x < m) (L : Nat) : Per g L (φ x) ↔ Per f L x := by
  have e : ∀ j, Tw.itr g j (φ x) = φ x ↔ Tw.itr f j x = x := fun j => by
    obtain ⟨a, b⟩ := h.itr x0 x1 j
    rw [b]
    exact ⟨fun z => h.inj _ _ a.1 a.2 x0 x1 z, fun z => by rw [z]⟩
  unfold Per
  rw [e L]
  exact ⟨fun ⟨a, b, c⟩ => ⟨a, b, fun j j1 j2 z => c j j1 j2 ((e j).mpr z)⟩, fun ⟨a, b, c⟩ => ⟨a, b, fun j j1 j2 z => c j j1 j2 ((e j).mp z)⟩⟩
theorem Cj.nper {f g φ : Int → Int} {m : Int} (h : Cj f g φ m) (L : Nat) : Nper g m L = Nper f m L := by
  have nd : ((alls m).map φ).Nodup := by
    have n0 := alls_nodup m
    rw [List.nodup_iff_pairwise_ne] at n0 ⊢
    rw [List.pairwise_map]
    refine List.Pairwise.imp_of_mem (fun {a b} ha hb hne z => ?_) n0
    have r1 := alls_mem.mp ha
    have r2 := alls_mem.mp hb
    exact hne (h.inj _ _ r1.1 r1.2 r2.1 r2.2 z)
  have sub : ∀ x ∈ (alls m).map φ, x ∈ alls m := fun x hx => by
    obtain ⟨y, hy, rfl⟩ := List.mem_map.mp hx
    have r := alls_mem.mp hy
    exact alls_mem.mpr (h.pr y r.1 r.2)
  have e1 : pcnt g ((alls m).map φ) L = Nper g m L := pcnt_same nd (alls_nodup m) fun x _ => ⟨sub x, fun z => sub_eq nd sub (List.length_map ..) z⟩
  rw [← e1]
  unfold Nper pcnt
  rw [List.countP_map]
  refine List.countP_congr fun x hx => ?_
  have r := alls_mem.mp hx
  simp only [Function.comp, decide_eq_true_eq]
  exact h.per r.1 r.2 L
theorem Cj.rds {f g φ : Int → Int} {m : Int} (h : Cj f g φ m) {zs : List (Int × Int)} (r : Rds g m zs) : Rds f m zs := ⟨r.up, fun L c => by
  rw [r.mem L c]
  unfold Crnd
  simp only [h.nper]⟩
/-! ### renamings one behind the other, and back -/
theorem gcd_red (u b : Int) : Int.gcd (u % b) b = Int.gcd u b := gcd_ext fun d => by
  have e := Int.mul_ediv_add_emod u b
  constructor
  · rintro ⟨⟨x, hx⟩, ⟨y, hy⟩⟩
    exact ⟨⟨y * (u / b) + x, by rw [hx] at e; grind⟩, ⟨y, hy⟩⟩
  · rintro ⟨⟨x, hx⟩, ⟨y, hy⟩⟩
    exact ⟨⟨x - y * (u / b), by grind⟩, ⟨y, hy⟩⟩
theorem gcd_mul1 {x u b : Int} (g1 : Int.gcd u b = 1) (g2 : Int.gcd x b = 1) : Int.gcd (x * u) b = 1 := by
  show Nat.gcd (x * u).natAbs b.natAbs = 1
  rw [Int.natAbs_mul]
  exact Nat.Coprime.mul_left g2 g1
/-- what is asked, by what divides -/
theorem leads_dvd {t1 p1 t2 p2 b u v : Int} : Leads t1 p1 t2 p2 b u v ↔ Int.gcd u b = 1 ∧ b ∣ u * t1 - t2 * u ∧ b ∣ u * p1 + v - (t2 * v + p2) := by
  unfold Leads
  rw [Int.emod_eq_emod_iff_emod_sub_eq_zero, Int.emod_eq_emod_iff_emod_sub_eq_zero, ← Int.dvd_iff_emod_eq_zero, ← Int.dvd_iff_emod_eq_zero]
theorem leads_red {t1 p1 t2 p2 b u v : Int} (h : Leads t1 p1 t2 p2 b u v) : Leads t1 p1 t2 p2 b (u % b) (v % b) := by
  rw [leads_dvd] at h ⊢
  obtain ⟨g, ⟨c, hc⟩, ⟨d, hd⟩⟩ := h
  rw [gcd_red]
  have e1 := Int.mul_ediv_add_emod u b
  have e2 := Int.mul_ediv_add_emod v b
  generalize u % b = x at *
  generalize v % b = y at *
  generalize u / b = k at *
  generalize v / b = l at *
  subst e1 e2
  exact ⟨g, ⟨c - k * t1 + t2 * k, by grind⟩, ⟨d - k * p1 - l + t2 * l, by grind⟩⟩
theorem leads_two {t1 p1 t2 p2 t3 p3 b u v x y : Int} (h : Leads t1 p1 t2 p2 b u v) (k : Leads t2 p2 t3 p3 b x y) : Leads t1 p1 t3 p3 b (x * u % b) ((x * v + y) % b) := by
  refine leads_red ?_
  rw [leads_dvd] at h k ⊢
  obtain ⟨g1, ⟨c, hc⟩, ⟨d, hd⟩⟩ := h
  obtain ⟨g2, ⟨e, he⟩, ⟨f, hf⟩⟩ := k
  exact ⟨gcd_mul1 g1 g2, ⟨x * c + u * e, by grind⟩, ⟨x * d + v * e + f, by grind⟩⟩
theorem bezI : ∀ (a b : Nat), ∃ x y : Int, (a : Int) * x + (b : Int) * y = (Nat.gcd a b : Nat) := by
  intro a b
  induction a, b using Nat.gcd.induction with
  | H0 n => exact ⟨0, 1, by rw [Nat.gcd_zero_left]; grind⟩
  | H1 m n hm ih =>
    obtain ⟨x, y, h⟩ := ih
    rw [Nat.gcd_rec]
    have e : (n : Int) = (m : Int) * ((n / m : Nat) : Int) + ((n % m : Nat) : Int) := by
      have := Nat.div_add_mod n m
      rw [← Int.natCast_mul, ← Int.natCast_add, this]
    exact ⟨y - ((n / m : Nat) : Int) * x, x, by rw [← h, e]; grind⟩
theorem inv_ex {u b : Int} (b0 : 0 < b) (g : Int.gcd u b = 1) : ∃ w c : Int, u * w = 1 + b * c := by
  obtain ⟨x, y, h⟩ := bezI u.natAbs b.natAbs
  have g' : Nat.gcd u.natAbs b.natAbs = 1 := g
  rw [g'] at h
  have hb : (b.natAbs : Int) = b := by omega
  rw [hb] at h
  by_cases c : 0 ≤ u
  · have hu : (u.natAbs : Int) = u := by omega
    rw [hu] at h
    exact ⟨x, -y, by grind⟩
  · have hu : (u.natAbs : Int) = -u := by omega
    rw [hu] at h
    exact ⟨-x, -y, by grind⟩
theorem leads_back {t1 p1 t2 p2 b u v : Int} (b0 : 0 < b) (h : Leads t1 p1 t2 p2 b u v) : ∃ x y, 0 ≤ x ∧ x < b ∧ 0 ≤ y ∧ y < b ∧ Leads t2 p2 t1 p1 b x y := by
  obtain ⟨w, c, hw⟩ := inv_ex b0 h.1
  have r1 := mod_bd w b0
  have r2 := mod_bd (-w * v) b0
  refine ⟨w % b, (-w * v) % b, r1.1, r1.2, r2.1, r2.2, leads_red ?_⟩
  rw [leads_dvd] at h ⊢
  obtain ⟨g, ⟨d, hd⟩, ⟨e, he⟩⟩ := h
  have q : b ∣ w * t2 - t1 * w := ⟨t1 * w * c - w * t2 * c - w * w * d, by grind⟩
  refine ⟨?_, q, ?_⟩
  · have z : ∀ k : Int, k ∣ w → k ∣ b → k ∣ 1 := fun k ⟨m, hm⟩ ⟨n, hn⟩ => ⟨u * m - n * c, by rw [hm, hn] at hw; grind⟩
    have z1 := z _ (Int.gcd_dvd_left (a := w) (b := b)) (Int.gcd_dvd_right (a := w) (b := b))
    exact Nat.dvd_one.mp (Int.natCast_dvd_natCast.mp (by simpa using z1))
  · obtain ⟨k, hk⟩ := q
    exact ⟨-w * e + c * p1 - v * k, by grind⟩
end Tw

/-! Two rows at once: sums of pairs, rounds of pairs. -/
namespace Tw
open PySem PySem.Spec PyProof.Rows L2
/-! ### sum(t), t a tuple of whole numbers -/
section
variable {prog : Program} {w : World} {A : Around} {E : Value → Shared → Prop} {s : Shared} {l : Addr} {its : List Value} {ns : List Int} {Q : Value → Shared → Prop}
theorem sum_rawT (hh : A.handled = none) (hl : s.heap.IsTuple l its.toArray) (hi : IntsAre its ns)
    (h : ∀ h' tk t', (∀ b o, s.heap.get? b = some o → h'.get? b = some o) → Q (.int ns.sum t') { s with heap := h', toks := tk }) : wpAny (model prog w) A (call (.builtin "sum") [.ref l]) Q E s := by
  obtain ⟨xs, e⟩ := hi.allInts.items
  have hn : numsOf (intItems xs).toList = ns := by rw [← e]; exact hi.numsOf
  rw [nums_intItems] at hn
  rw [e] at hl
  have hlt : l < s.heap.objs.size := by obtain ⟨_, e, _⟩ := hl; exact Heap.lt_size e
  refine call_sum_walkG (wpAny_pyIter_tuple hl ⟨_, _, _, _, _, _, numAt xs, rfl, Walks.tuple (A := A.in1) hh _ l (Nat.ne_of_lt hlt) (intItems xs), ⟨⟨_, Heap.get?_push_size _ rfl, rfl, rfl⟩, hl.push _⟩, fun b hb => ?_, (fun _ _ => intItems_at), fun h' tk t' hk => ?_⟩)
  · show b < (s.heap.push _).objs.size
    rw [Heap.size_push]
    rcases List.mem_cons.mp hb with rfl | hb
    · exact Nat.lt_succ_self _
    · rcases List.mem_cons.mp hb with rfl | hb
      · exact Nat.lt_succ_of_lt hlt
      · cases hb
  · have := h h' tk t' (fun b o e => hk b o (fun hm => absurd (Heap.lt_size e) ((List.mem_singleton.mp hm) ▸ Nat.lt_irrefl _)) (Heap.get?_push_of_some _ e))
    have sz : (intItems xs).size = xs.size := by simp [intItems]
    rw [sz, preSum_eq, List.take_of_length_le (by simp), hn]
    exact this
end
def rSumT (K : PySem.W.Frag) : List V → Hp → VK → Prop := fun vs H Q => ∃ (a : Addr) (ns : List Int), vs = [V.ref a] ∧ SqT K H a (ns.map V.int) ∧ Q (.int ns.sum) H
theorem cr_sumT {X : Cx} (hc : X.calm = true) : CallR X (.builtin "sum") (rSumT X.K) := by
  intro pins s σ H vs us Q I r h
  obtain ⟨a, ns, rfl, hs, q⟩ := h
  obtain ⟨its, rv, hl, _⟩ := I.tuple hs
  rw [Vals.ref1 r]
  exact sum_rawT (I.ok.hd hc) hl (intsAre_of rv) fun h' tk t' hk => ⟨.int _, H, I.kept hk, ⟨_, rfl⟩, q⟩
/-! ### what leaves the same rest -/
def Eqm (m a b : Int) : Prop := m ∣ a - b
theorem Eqm.refl (m a : Int) : Eqm m a a := ⟨0, by omega⟩
theorem Eqm.symm {m a b : Int} (h : Eqm m a b) : Eqm m b a := by obtain ⟨k, e⟩ := h; exact ⟨-k, by grind⟩
theorem Eqm.trans {m a b c : Int} (h : Eqm m a b) (g : Eqm m b c) : Eqm m a c := by obtain ⟨k, e⟩ := h; obtain ⟨l, f⟩ := g; exact ⟨k + l, by grind⟩
theorem Eqm.add {m a b c d : Int} (h : Eqm m a b) (g : Eqm m c d) : Eqm m (a + c) (b + d) := by obtain ⟨k, e⟩ := h; obtain ⟨l, f⟩ := g; exact ⟨k + l, by grind⟩
theorem Eqm.sub {m a b c d : Int} (h : Eqm m a b) (g : Eqm m c d) : Eqm m (a - c) (b - d) := by obtain ⟨k, e⟩ := h; obtain ⟨l, f⟩ := g; exact ⟨k - l, by grind⟩
theorem Eqm.mul {m a b c d : Int} (h : Eqm m a b) (g : Eqm m c d) : Eqm m (a * c) (b * d) := by obtain ⟨k, e⟩ := h; obtain ⟨l, f⟩ := g; exact ⟨k * c + b * l, by grind⟩
theorem Eqm.mod (m a : Int) : Eqm m (a % m) a := ⟨-(a / m), by have := Int.mul_ediv_add_emod a m; grind⟩
theorem Eqm.of {m a b : Int} (h : a = b) : Eqm m a b := h ▸ Eqm.refl m a
theorem Eqm.iff {m a b : Int} : Eqm m a b ↔ a % m = b % m := by
  unfold Eqm
  rw [Int.emod_eq_emod_iff_emod_sub_eq_zero, Int.dvd_iff_emod_eq_zero]
/-- the third one, by which three sums go on -/
def thr (t1 p1 t2 p2 m : Int) : Int := (p1 * (1 - t2) + p2 * (1 - t1)) % m
theorem sum_three (t1 p1 t2 p2 m x y : Int) : Eqm m ((stp t1 p1 m (stp t1 p1 m x) + stp t2 p2 m (stp t2 p2 m y)) % m - (t1 + t2) % m * ((stp t1 p1 m x + stp t2 p2 m y) % m) + t1 * t2 % m * ((x + y) % m)) (thr t1 p1 t2 p2 m) := by
  have hx : Eqm m (stp t1 p1 m x) (t1 * x + p1) := Eqm.mod _ _
  have hy : Eqm m (stp t2 p2 m y) (t2 * y + p2) := Eqm.mod _ _
  have hxx : Eqm m (stp t1 p1 m (stp t1 p1 m x)) (t1 * (t1 * x + p1) + p1) := (Eqm.mod _ _).trans (((Eqm.refl _ _).mul hx).add (Eqm.refl _ _))
  have hyy : Eqm m (stp t2 p2 m (stp t2 p2 m y)) (t2 * (t2 * y + p2) + p2) := (Eqm.mod _ _).trans (((Eqm.refl _ _).mul hy).add (Eqm.refl _ _))
  have s2 := (Eqm.mod m _).trans (hxx.add hyy)
  have s1 := (Eqm.mod m _).trans (hx.add hy)
  have s0 := Eqm.mod m (x + y)
  refine ((s2.sub ((Eqm.mod m (t1 + t2)).mul s1)).add ((Eqm.mod m (t1 * t2)).mul s0)).trans (.trans ?_ (Eqm.mod m _).symm)
  refine Eqm.of ?_
  grind
/-! ### where a row comes round -/
def Rnd {α : Type} (a : Nat → α) (T L : Nat) : Prop := 0 < L ∧ ∀ i j, i < j → (a i = a j ↔ T ≤ i ∧ L ∣ j - i)
theorem rnd_uniq {α : Type} {a : Nat → α} {T L n j : Nat} (h : Rnd a T L) (hj : j < n) (e : a n = a j) (inj : ∀ i k, i < k → k < n → a i ≠ a k) : T = j ∧ L = n - j := by
  obtain ⟨L0, h⟩ := h
  obtain ⟨h1, h2⟩ := (h j n hj).mp e.symm
  have h3 := Nat.le_of_dvd (by omega) h2
  have h4 : n ≤ T + L := by
    by_cases c : n ≤ T + L
    · exact c
    · exact absurd ((h T (T + L) (by omega)).mpr ⟨Nat.le_refl _, by rw [Nat.add_sub_cancel_left]; exact Nat.dvd_refl L⟩) (inj T (T + L) (by omega) (by omega))
  omega
theorem rnd_two {α β : Type} {a : Nat → α} {b : Nat → β} {T1 L1 T2 L2 : Nat} (h : Rnd a T1 L1) (k : Rnd b T2 L2) : Rnd (fun i => (a i, b i)) (max T1 T2) (Nat.lcm L1 L2) := by
  refine ⟨Nat.lcm_pos h.1 k.1, fun i j ij => ?_⟩
  show (a i, b i) = (a j, b j) ↔ _
  rw [Prod.mk.injEq, h.2 i j ij, k.2 i j ij]
  constructor
  · rintro ⟨⟨a1, a2⟩, b1, b2⟩
    exact ⟨by omega, Nat.lcm_dvd a2 b2⟩
  · rintro ⟨a1, a2⟩
    exact ⟨⟨by omega, Nat.dvd_trans (Nat.dvd_lcm_left _ _) a2⟩, by omega, Nat.dvd_trans (Nat.dvd_lcm_right _ _) a2⟩
theorem itr_cyc {f : Int → Int} {x : Int} {n j : Nat} (hj : j < n) (h : itr f n x = itr f j x) {i : Nat} (hi : j ≤ i) : ∀ k, itr f (i + (n - j) * k) x = itr f i x
  | 0 => rfl
  | k + 1 => by
    rw [Nat.mul_succ, ← Nat.add_assoc, cyc_step hj h (by omega), itr_cyc hj h hi k]
theorem rnd_itr {f : Int → Int} {x : Int} {n j : Nat} (nd : (orb f n x).Nodup) (hj : j < n) (h : itr f n x = itr f j x) : Rnd (fun i => itr f i x) j (n - j) := by
  have inj : ∀ {a b : Nat}, a < n → b < n → itr f a x = itr f b x → a = b := fun {a b} ha hb e => orb_inj (ws := []) nd ha hb e
  refine ⟨by omega, fun i k ik => ?_⟩
  show itr f i x = itr f k x ↔ _
  have red : ∀ a, j ≤ a → itr f a x = itr f (j + (a - j) % (n - j)) x ∧ (a - j) % (n - j) < n - j := fun a ha => by
    have e : a = (j + (a - j) % (n - j)) + (n - j) * ((a - j) / (n - j)) := by
      have := Nat.mod_add_div (a - j) (n - j)
      omega
    refine ⟨?_, Nat.mod_lt _ (by omega)⟩
    conv => lhs; rw [e]
    exact itr_cyc hj h (by omega) _
  constructor
  · intro e
    by_cases c : j ≤ i
    · refine ⟨c, ?_⟩
      obtain ⟨r1, l1⟩ := red i c
      obtain ⟨r2, l2⟩ := red k (by omega)
      rw [r1, r2] at e
      have e2 := inj (by omega) (by omega) e
      have e3 : (i - j) % (n - j) = (k - j) % (n - j) := by omega
      have m1 := Nat.mod_add_div (i - j) (n - j)
      have m2 := Nat.mod_add_div (k - j) (n - j)
      refine ⟨(k - j) / (n - j) - (i - j) / (n - j), ?_⟩
      rw [Nat.mul_sub]
      omega
    · exfalso
      by_cases c2 : j ≤ k
      · obtain ⟨r2, l2⟩ := red k c2
        rw [r2] at e
        have := inj (by omega) (by omega) e
        omega
      · have := inj (by omega) (by omega) e
        omega
  · rintro ⟨c, ⟨q, hq⟩⟩
    have e : k = i + (n - j) * q := by omega
    rw [e]
    exact (itr_cyc hj h c q).symm
/-- tail and length are where the row comes round -/
theorem rnd_rule {t p m s : Int} (m0 : 0 < m) (s0 : 0 ≤ s) (s1 : s < m) : ∃ T L : Nat, rndT t p m s = T ∧ rndL t p m s = L ∧ (T : Int) + L ≤ m ∧ Rnd (fun i => itr (stp t p m) i s) T L := by
  have W := wk_good (t := t) (p := p) m0 (m.toNat + 1) [] s List.nodup_nil (fun x hx => by cases hx) ⟨s0, s1⟩ (by simp)
  obtain ⟨n, hn, ew⟩ := wk_form (stp t p m) (m.toNat + 1) [] s
  have ew : rndW t p m s = ([] ++ orb (stp t p m) n s, itr (stp t p m) n s) := ew
  rw [List.nil_append] at ew
  have W : (rndW t p m s).1.Nodup ∧ Rng m (rndW t p m s).1 ∧ (rndW t p m s).2 ∈ (rndW t p m s).1 := W
  rw [ew] at W
  obtain ⟨jn, ej⟩ := orb_idx W.2.2
  have jn : (orb (stp t p m) n s).idxOf (itr (stp t p m) n s) < n := jn
  refine ⟨(orb (stp t p m) n s).idxOf (itr (stp t p m) n s), n - (orb (stp t p m) n s).idxOf (itr (stp t p m) n s), ?_, ?_, ?_, rnd_itr W.1 jn ej.symm⟩
  · unfold rndT
    rw [ew]
  · unfold rndL rndT
    rw [ew]
    show ((orb (stp t p m) n s).length : Int) - (((orb (stp t p m) n s).idxOf (itr (stp t p m) n s) : Nat) : Int) = _
    rw [orb_len]
    omega
  · have := int_len W.1 W.2.1
    have : (orb (stp t p m) n s).length ≤ m.toNat := this
    rw [orb_len] at this
    omega
theorem rnd_bd {t p m s : Int} (m0 : 0 < m) (s0 : 0 ≤ s) (s1 : s < m) : 0 ≤ rndT t p m s ∧ 0 < rndL t p m s ∧ rndT t p m s + rndL t p m s ≤ m := by
  obtain ⟨T, L, e1, e2, h, r⟩ := rnd_rule (t := t) (p := p) m0 s0 s1
  have := r.1
  rw [e1, e2]
  omega
/-! ### a dict of pairs -/
def enumP : Nat → List (Int × Int) → List (List Key × V)
  | _, [] => []
  | i, w :: ws => ([Sum.inl w.1, Sum.inl w.2], V.int (i : Int)) :: enumP (i + 1) ws
theorem enumP_len : ∀ (i : Nat) (ws : List (Int × Int)), (enumP i ws).length = ws.length
  | _, [] => rfl
  | i, w :: ws => by show (enumP (i + 1) ws).length + 1 = ws.length + 1; rw [enumP_len]
theorem enumP_snoc : ∀ (i : Nat) (ws : List (Int × Int)) (x : Int × Int), enumP i (ws ++ [x]) = enumP i ws ++ [([Sum.inl x.1, Sum.inl x.2], V.int ((i + ws.length : Nat) : Int))]
  | i, [], x => rfl
  | i, w :: ws, x => by
    show ([Sum.inl w.1, Sum.inl w.2], V.int (i : Int)) :: enumP (i + 1) (ws ++ [x]) = ([Sum.inl w.1, Sum.inl w.2], V.int (i : Int)) :: enumP (i + 1) ws ++ [([Sum.inl x.1, Sum.inl x.2], V.int ((i + (ws.length + 1) : Nat) : Int))]
    rw [enumP_snoc, show i + 1 + ws.length = i + (ws.length + 1) by omega]
    rfl
theorem keyP {w x : Int × Int} : ([Sum.inl w.1, Sum.inl w.2] : List Key) = [Sum.inl x.1, Sum.inl x.2] ↔ w = x := by
  constructor
  · intro h
    injection h with h1 h2
    injection h2 with h2 _
    exact Prod.ext (Sum.inl.inj h1) (Sum.inl.inj h2)
  · rintro rfl; rfl
theorem enumP_none : ∀ (i : Nat) {ws : List (Int × Int)} {x : Int × Int}, x ∉ ws → valV (enumP i ws) [Sum.inl x.1, Sum.inl x.2] = none
  | _, [], _, _ => rfl
  | i, w :: ws, x, h => by
    show valV (([Sum.inl w.1, Sum.inl w.2], V.int (i : Int)) :: enumP (i + 1) ws) _ = none
    rw [valV_neg (fun e => h (by rw [← keyP.mp e]; exact List.mem_cons_self))]
    exact enumP_none (i + 1) (fun hm => h (List.mem_cons_of_mem _ hm))
theorem enumP_some : ∀ (i : Nat) {ws : List (Int × Int)} {x : Int × Int}, x ∈ ws → valV (enumP i ws) [Sum.inl x.1, Sum.inl x.2] = some (V.int ((i + ws.idxOf x : Nat) : Int))
  | i, w :: ws, x, h => by
    show valV (([Sum.inl w.1, Sum.inl w.2], V.int (i : Int)) :: enumP (i + 1) ws) _ = _
    by_cases e : w = x
    · subst e
      rw [valV_pos rfl, List.idxOf_cons_self]
      rfl
    · have e2 : (w :: ws).idxOf x = ws.idxOf x + 1 := by
        rw [List.idxOf_cons]
        simp [beq_eq_false_iff_ne.mpr e]
      rw [valV_neg (fun z => e (keyP.mp z)), e2, enumP_some (i + 1) ((List.mem_cons.mp h).resolve_left (fun z => e z.symm))]
      congr 2
      omega
theorem enumP_put {ws : List (Int × Int)} {x : Int × Int} (h : x ∉ ws) : putK (enumP 0 ws) [Sum.inl x.1, Sum.inl x.2] (V.int (ws.length : Int)) = enumP 0 (ws ++ [x]) := by
  rw [putK_new _ (enumP_none 0 h), enumP_snoc, Nat.zero_add]
/-! ### promises -/
def mxI (a b : Int) : Int := if b > a then b else a
def lcI (a b : Int) : Int := a * b / (Int.gcd a b : Nat)
theorem gcd_pos2 {a b : Int} (h : 0 < a) : 0 < Int.gcd a b := Nat.pos_of_ne_zero fun e => by
  have := (Int.gcd_eq_zero_iff.mp e).1
  omega
/-- the round of pairs -/
theorem rnd_pairs {t1 p1 t2 p2 m x y : Int} (m0 : 0 < m) (x0 : 0 ≤ x) (x1 : x < m) (y0 : 0 ≤ y) (y1 : y < m) {n j : Nat} (hj : j < n) (e1 : itr (stp t1 p1 m) n x = itr (stp t1 p1 m) j x) (e2 : itr (stp t2 p2 m) n y = itr (stp t2 p2 m) j y)
    (inj : ∀ i k, i < k → k < n → (itr (stp t1 p1 m) i x, itr (stp t2 p2 m) i y) ≠ (itr (stp t1 p1 m) k x, itr (stp t2 p2 m) k y)) : mxI (rndT t1 p1 m x) (rndT t2 p2 m y) = j ∧ lcI (rndL t1 p1 m x) (rndL t2 p2 m y) = ((n - j : Nat) : Int) := by
  obtain ⟨T1, L1, a1, a2, _, r1⟩ := rnd_rule (t := t1) (p := p1) m0 x0 x1
  obtain ⟨T2, L2, b1, b2, _, r2⟩ := rnd_rule (t := t2) (p := p2) m0 y0 y1
  obtain ⟨u1, u2⟩ := rnd_uniq (rnd_two r1 r2) hj (Prod.ext e1 e2) inj
  rw [a1, a2, b1, b2]
  constructor
  · unfold mxI
    rw [← u1]
    split <;> omega
  · unfold lcI
    rw [← u2, Int.gcd_natCast_natCast, ← Int.natCast_mul, ← Int.natCast_ediv]
    rfl
def pTwo (K : PySem.W.Frag) (CN CU : Addr) (G : Int → Int → Int → Int → Int → Int → Int → Hp → VK → Prop) : V → V → V → V → Hp → VK → XK → Prop := fun a b c d H Q E => ∃ (r1 r2 : Addr) (t1 p1 m1 x t2 p2 m2 y : Int), a = .ref r1 ∧ b = .int x ∧ c = .ref r2 ∧ d = .int y ∧ SqT K H r1 [.int t1, .int p1, .int m1] ∧ Rule t1 p1 m1 ∧ SqT K H r2 [.int t2, .int p2, .int m2] ∧ Rule t2 p2 m2 ∧
  ((0 ≤ x ∧ x < m1) → (0 ≤ y ∧ y < m2) → m1 = m2 → G t1 p1 t2 p2 m1 x y H Q) ∧ (¬ (0 ≤ x ∧ x < m1) → Bad CN x H E) ∧ ((0 ≤ x ∧ x < m1) → ¬ (0 ≤ y ∧ y < m2) → Bad CN y H E) ∧ ((0 ≤ x ∧ x < m1) → (0 ≤ y ∧ y < m2) → m1 ≠ m2 → E (.ref CU) none H)
def gSum : Int → Int → Int → Int → Int → Int → Int → Hp → VK → Prop := fun t1 p1 t2 p2 m _ _ H Q => ∀ H' q, Same H H' → H q = none → H' q = some (.tup [.int ((t1 + t2) % m), .int (t1 * t2 % m), .int (thr t1 p1 t2 p2 m)]) → Q (.ref q) H'
def gRnd : Int → Int → Int → Int → Int → Int → Int → Hp → VK → Prop := fun t1 p1 t2 p2 m x y H Q => m ≤ 1000000 ∧ ∀ H' q, Same H H' → H q = none → H' q = some (.tup [.int (mxI (rndT t1 p1 m x) (rndT t2 p2 m y)), .int (lcI (rndL t1 p1 m x) (rndL t2 p2 m y))]) → Q (.ref q) H'
/-! ### the row of pairs -/
def pwA (f g : Int → Int) (x y : Int) (i : Nat) : Int × Int := (itr f i x, itr g i y)
def pws (f g : Int → Int) (x y : Int) (n : Nat) : List (Int × Int) := (List.range n).map (pwA f g x y)
theorem pws_len (f g : Int → Int) (x y : Int) (n : Nat) : (pws f g x y n).length = n := by unfold pws; rw [List.length_map, List.length_range]
theorem pws_succ (f g : Int → Int) (x y : Int) (n : Nat) : pws f g x y (n + 1) = pws f g x y n ++ [pwA f g x y n] := by
  unfold pws
  rw [List.range_succ, List.map_append]
  rfl
theorem pws_idx {f g : Int → Int} {x y : Int} {n : Nat} {z : Int × Int} (h : z ∈ pws f g x y n) : (pws f g x y n).idxOf z < n ∧ pwA f g x y ((pws f g x y n).idxOf z) = z := by
  have l := List.idxOf_lt_length_of_mem h
  have e := List.getElem_idxOf l
  rw [pws_len] at l
  refine ⟨l, ?_⟩
  have e2 : (pws f g x y n)[(pws f g x y n).idxOf z]? = some z := by rw [List.getElem?_eq_getElem (by rw [pws_len]; exact l), e]
  generalize (pws f g x y n).idxOf z = i at l e2
  unfold pws at e2
  rw [List.getElem?_map, List.getElem?_range l] at e2
  exact Option.some.inj e2
theorem pws_inj {f g : Int → Int} {x y : Int} {n : Nat} (nd : (pws f g x y n).Nodup) : ∀ i k, i < k → k < n → pwA f g x y i ≠ pwA f g x y k := fun i k ik kn e => by
  rw [List.nodup_iff_pairwise_ne] at nd
  have := List.pairwise_iff_getElem.mp nd i k (by rw [pws_len]; omega) (by rw [pws_len]; omega) ik
  unfold pws at this
  rw [List.getElem_map, List.getElem_map, List.getElem_range, List.getElem_range] at this
  exact this e
theorem prs_len {m : Int} (m0 : 0 < m) {ws : List (Int × Int)} (nd : ws.Nodup) (rg : ∀ z ∈ ws, (0 ≤ z.1 ∧ z.1 < m) ∧ 0 ≤ z.2 ∧ z.2 < m) : (ws.length : Int) ≤ m * m := by
  have mm : 0 ≤ m * m := Int.mul_nonneg (by omega) (by omega)
  have h := int_len (m := m * m) (ws := ws.map fun z => z.1 * m + z.2) ?_ ?_
  · rw [List.length_map] at h
    omega
  · rw [List.nodup_iff_pairwise_ne] at nd ⊢
    rw [List.pairwise_map]
    refine List.Pairwise.imp_of_mem (fun {a b} ha hb hne e => hne ?_) nd
    have r1 := rg a ha
    have r2 := rg b hb
    have e1 : (a.1 * m + a.2) / m = a.1 := by rw [Int.add_comm, Int.add_mul_ediv_right _ _ (by omega), Int.ediv_eq_zero_of_lt r1.2.1 r1.2.2]; omega
    have e2 : (b.1 * m + b.2) / m = b.1 := by rw [Int.add_comm, Int.add_mul_ediv_right _ _ (by omega), Int.ediv_eq_zero_of_lt r2.2.1 r2.2.2]; omega
    have e3 : a.1 = b.1 := by rw [← e1, ← e2, e]
    refine Prod.ext e3 ?_
    rw [e3] at e
    omega
  · intro x hx
    obtain ⟨z, hz, rfl⟩ := List.mem_map.mp hx
    have r := rg z hz
    have u := mul_bd r.1.1 (show z.1 ≤ m - 1 by omega) (show 0 ≤ m by omega) (Int.le_refl m)
    rw [Int.sub_mul] at u
    omega
theorem nodup_snocP {ws : List (Int × Int)} {x : Int × Int} (nd : ws.Nodup) (h : x ∉ ws) : (ws ++ [x]).Nodup := by
  rw [List.nodup_append]
  refine ⟨nd, by simp, fun a ha b hb => ?_⟩
  rw [List.mem_singleton] at hb
  subst hb
  exact fun e => h (e ▸ ha)
/-! ### the law's own -/
def pBeside (K : PySem.W.Frag) : V → V → Hp → VK → XK → Prop := fun a b H Q _ => ∃ (d r : Addr) (n : Nat) (t p m : Int), a = .ref d ∧ b = .ref r ∧ SqT K H r [.int t, .int p, .int m] ∧ Rule t p m ∧ DeckB H d n ∧ n + 6 ≤ 100000000 ∧
  ∀ (H' : Hp) (q : Addr) (t2 p2 : Int), But d H H' → DeckB H' d (n + 6) → H' q = some (.tup [.int t2, .int p2, .int m]) → Rule t2 p2 m → Q (.ref q) H'
/-- of two rules of one bound and good starts -/
def pTwoL (K : PySem.W.Frag) (M : Int) (G : Int → Int → Int → Int → Int → Int → Int → Hp → VK → Prop) : V → V → V → V → Hp → VK → XK → Prop := fun a b c d H Q _ => ∃ (r1 r2 : Addr) (t1 p1 m x t2 p2 y : Int), a = .ref r1 ∧ b = .int x ∧ c = .ref r2 ∧ d = .int y ∧ SqT K H r1 [.int t1, .int p1, .int m] ∧ Rule t1 p1 m ∧ SqT K H r2 [.int t2, .int p2, .int m] ∧ Rule t2 p2 m ∧ m ≤ M ∧ 0 ≤ x ∧ x < m ∧ 0 ≤ y ∧ y < m ∧ G t1 p1 t2 p2 m x y H Q
def gYes : Int → Int → Int → Int → Int → Int → Int → Hp → VK → Prop := fun _ _ _ _ _ _ _ H Q => ∀ H', Same H H' → Q (.bl true) H'
def pCau (K : PySem.W.Frag) (CN CU : Addr) : V → V → V → V → V → Hp → VK → XK → Prop := fun w a b c d H Q _ => ∃ (wy : Int) (r1 r2 : Addr) (t1 p1 m1 x t2 p2 m2 y : Int), w = .int wy ∧ a = .ref r1 ∧ b = .int x ∧ c = .ref r2 ∧ d = .int y ∧ SqT K H r1 [.int t1, .int p1, .int m1] ∧ Rule t1 p1 m1 ∧ SqT K H r2 [.int t2, .int p2, .int m2] ∧ Rule t2 p2 m2 ∧ m1 ≤ 2000 ∧
  ((0 ≤ x ∧ x < m1) → (0 ≤ y ∧ y < m2) → m1 = m2 → ∀ H', Same H H' → Q .non H') ∧
  (¬ ((0 ≤ x ∧ x < m1) ∧ (0 ≤ y ∧ y < m2)) → ∀ H' xe dd, Same H H' → H' xe = some (exv xe (.ref CN) (some dd)) → H' dd = some (.xd [("number", .int (if 0 ≤ x ∧ x < m1 then y else x))]) → Q (.ref xe) H') ∧
  ((0 ≤ x ∧ x < m1) → (0 ≤ y ∧ y < m2) → m1 ≠ m2 → ∀ H' xe, Same H H' → H' xe = some (exv xe (.ref CU) none) → Q (.ref xe) H')
def pIsRule (CU : Addr) : V → Hp → VK → XK → Prop := fun a H Q _ => ∃ x : Addr, a = .ref x ∧ H x = some (exv x (.ref CU) none) ∧ ∀ H', Same H H' → Q (.bl true) H'
def pRefd (K : PySem.W.Frag) : V → V → V → Hp → VK → XK → Prop := fun a b c H Q _ => ∃ (d r1 r2 : Addr) (n : Nat) (t1 p1 m1 t2 p2 m2 : Int), a = .ref d ∧ b = .ref r1 ∧ c = .ref r2 ∧ SqT K H r1 [.int t1, .int p1, .int m1] ∧ Rule t1 p1 m1 ∧ SqT K H r2 [.int t2, .int p2, .int m2] ∧ Rule t2 p2 m2 ∧ m1 ≤ 2000 ∧ DeckB H d n ∧ n + 10 ≤ 100000000 ∧ ∀ H', But d H H' → DeckB H' d (n + 10) → Q (.bl true) H'
end Tw

/-! Comprehensions of two clauses; two rows woven. -/
namespace Tw
open PySem PySem.Spec PyProof.Rows L2
theorem ps_setLc2 {X : Cx} {elt t0 i0 t1 i1 : Expr} {f0 f1 : List Expr} {scope : Scope} {own : List (Str × Nat)} {pos : Pos} {wi : TI} {g0 g1 : TG} {tt0 tt1 : TT} {te : TE} {wi1 : TI} {i : Nat} {y : Str} {py spos : Pos} (vs1 : List Nat) (hc : X.calm = true) (hN : X.N.Nodup) (hy : X.N[i]? = some y) (hyl : X.env.scope.names.lookup y = some .local)
    (hsw : swapsWith (.ListComp elt [⟨t0, i0, f0, 0⟩, ⟨t1, i1, f1, 0⟩] scope pos) (some (.Name y py)) spos.line X.env = pure true) (hi : PI X t0 i0 wi) (ok : BlkOk X.N X.env.scope scope own)
    (hv1 : ∀ i ∈ vs1, i ∈ own.map (·.2))
    (p0 : ∀ (s3 : Shared) (H3 : Hp) (C : Addr) (cl : List (Str × Addr)) (fp : List Addr), PG (X.blk s3 H3 scope (compEnvC scope cl C X.env) fp) t0 g0) (q0 : ∀ (s3 : Shared) (H3 : Hp) (C : Addr) (cl : List (Str × Addr)) (fp : List Addr), PTs (X.blk s3 H3 scope (compEnvC scope cl C X.env) fp) f0 tt0) (r1 : ∀ (s3 : Shared) (H3 : Hp) (C : Addr) (cl : List (Str × Addr)) (fp : List Addr), PI (X.blk s3 H3 scope (compEnvC scope cl C X.env) fp) t1 i1 wi1) (k1 : ∀ (s3 : Shared) (H3 : Hp) (C : Addr) (cl : List (Str × Addr)) (fp : List Addr), ∀ x, foldedSetIterable i1 (compEnvC scope cl C X.env) x = pure x) (p1 : ∀ (s3 : Shared) (H3 : Hp) (C : Addr) (cl : List (Str × Addr)) (fp : List Addr), PG (X.blk s3 H3 scope (compEnvC scope cl C X.env) fp) t1 g1) (q1 : ∀ (s3 : Shared) (H3 : Hp) (C : Addr) (cl : List (Str × Addr)) (fp : List Addr), PTs (X.blk s3 H3 scope (compEnvC scope cl C X.env) fp) f1 tt1) (pe : ∀ (s3 : Shared) (H3 : Hp) (C : Addr) (cl : List (Str × Addr)) (fp : List Addr), PE (X.blk s3 H3 scope (compEnvC scope cl C X.env) fp) elt te)
    (hs : ∀ x, foldedSetIterable i0 X.env x = pure x := by intro _; rfl) : PS X (.Assign [.Name y py] (.ListComp elt [⟨t0, i0, f0, 0⟩, ⟨t1, i1, f1, 0⟩] scope pos) spos) (tAsg (tLcN wi (fun D => bodyM g0 tt0 (own.map (·.2)) wi1 (bodyE g1 tt1 te vs1 D)) (own.map (·.2))) (gName i)) :=
  ps_setLcN hc hN hy hyl hsw hi ok (fun s3 H3 C cl fp D => loop_mid (d := 0) rfl rfl hc rfl hv1 (p0 s3 H3 C cl fp) (q0 s3 H3 C cl fp) (r1 s3 H3 C cl fp) (k1 s3 H3 C cl fp) (loop_last (d := 1) rfl rfl hc rfl (p1 s3 H3 C cl fp) (q1 s3 H3 C cl fp) (pe s3 H3 C cl fp))) hs
/-- two rows woven -/
def wvA (f g : Int → Int) (x y : Int) (k : Nat) : Int := if k % 2 = 0 then itr f (k / 2) x else itr g (k / 2) y
def wv (f g : Int → Int) (x y : Int) (n : Nat) : List Int := (List.range n).map (wvA f g x y)
theorem wv_len (f g : Int → Int) (x y : Int) (n : Nat) : (wv f g x y n).length = n := by unfold wv; rw [List.length_map, List.length_range]
theorem wv_succ (f g : Int → Int) (x y : Int) (n : Nat) : wv f g x y (n + 1) = wv f g x y n ++ [wvA f g x y n] := by
  unfold wv
  rw [List.range_succ, List.map_append]
  rfl
theorem wvA_even (f g : Int → Int) (x y : Int) (i : Nat) : wvA f g x y (2 * i) = itr f i x := by
  unfold wvA
  rw [if_pos (by omega), show 2 * i / 2 = i by omega]
theorem wvA_odd (f g : Int → Int) (x y : Int) (i : Nat) : wvA f g x y (2 * i + 1) = itr g i y := by
  unfold wvA
  rw [if_neg (by omega), show (2 * i + 1) / 2 = i by omega]
theorem wv_two (f g : Int → Int) (x y : Int) (i : Nat) : wv f g x y (2 * (i + 1)) = wv f g x y (2 * i) ++ [itr f i x] ++ [itr g i y] := by
  rw [show 2 * (i + 1) = 2 * i + 1 + 1 by omega, wv_succ, wv_succ, wvA_even, wvA_odd]
theorem wv_take (f g : Int → Int) (x y : Int) {n m : Nat} (h : n ≤ m) : (wv f g x y m).take n = wv f g x y n := by
  unfold wv
  rw [← List.map_take, List.take_range, Nat.min_eq_left h]
theorem orb_gt (f : Int → Int) {n i : Nat} (x : Int) (h : i < n) : (orb f n x)[i]? = some (itr f i x) := by
  unfold orb
  rw [List.getElem?_map, List.getElem?_range h]
  rfl
theorem orb_gD (f : Int → Int) {n i : Nat} (x : Int) (h : i < n) : (orb f n x).getD i 0 = itr f i x := by
  rw [List.getD_eq_getElem?_getD, orb_gt f x h]
  rfl
def pWoven (K : PySem.W.Frag) (CN : Addr) : V → V → V → V → V → Hp → VK → XK → Prop := fun a b c d e H Q E => ∃ (r1 r2 : Addr) (t1 p1 m1 x t2 p2 m2 y n : Int), a = .ref r1 ∧ b = .int x ∧ c = .ref r2 ∧ d = .int y ∧ e = .int n ∧ SqT K H r1 [.int t1, .int p1, .int m1] ∧ Rule t1 p1 m1 ∧ SqT K H r2 [.int t2, .int p2, .int m2] ∧ Rule t2 p2 m2 ∧ 0 ≤ n ∧ n ≤ 1000 ∧
  ((0 ≤ x ∧ x < m1) → (0 ≤ y ∧ y < m2) → ∀ H' q, Same H H' → H q = none → H' q = some (.tup ((wv (stp t1 p1 m1) (stp t2 p2 m2) x y n.toNat).map V.int)) → Q (.ref q) H') ∧ (¬ (0 ≤ x ∧ x < m1) → Bad CN x H E) ∧ ((0 ≤ x ∧ x < m1) → ¬ (0 ≤ y ∧ y < m2) → ∀ H', Same H H' → Bad CN y H' E)
def pTold24 (K : PySem.W.Frag) (CN : Addr) : V → V → V → V → V → Hp → VK → XK → Prop := fun a b c d e H Q _ => ∃ (r1 r2 : Addr) (t1 p1 m1 x t2 p2 m2 y n : Int), a = .ref r1 ∧ b = .int x ∧ c = .ref r2 ∧ d = .int y ∧ e = .int n ∧ SqT K H r1 [.int t1, .int p1, .int m1] ∧ Rule t1 p1 m1 ∧ SqT K H r2 [.int t2, .int p2, .int m2] ∧ Rule t2 p2 m2 ∧ 0 ≤ n ∧ n ≤ 1000 ∧
  ((0 ≤ x ∧ x < m1) → (0 ≤ y ∧ y < m2) → ∀ H' l q, Same H H' → H' l = some (.lst [.ref q, .non]) → H' q = some (.tup ((wv (stp t1 p1 m1) (stp t2 p2 m2) x y n.toNat).map V.int)) → Q (.ref l) H') ∧
  (¬ ((0 ≤ x ∧ x < m1) ∧ (0 ≤ y ∧ y < m2)) → ∀ H' l xe dd, Same H H' → H' l = some (.lst [.non, .ref xe]) → H' xe = some (exv xe (.ref CN) (some dd)) → H' dd = some (.xd [("number", .int (if 0 ≤ x ∧ x < m1 then y else x))]) → Q (.ref l) H')
end Tw

/-! Slices of tuples with a step. -/
namespace Tw
open PySem PySem.Spec PyProof PyProof.Rows L2
/-- what stands at so many places, from lo on, by steps -/
def stepL {α : Type} (xs : List α) (lo st : Int) (k : Nat) : List α := (List.range k).filterMap fun (m : Nat) => xs[(lo + (m : Int) * st).toNat]?
theorem vals_get {i : Nat} : ∀ {xs : List V} {us : List Value}, Vals xs us → (xs[i]? = none ∧ us[i]? = none) ∨ ∃ x u, xs[i]? = some x ∧ us[i]? = some u ∧ RelV x u := by
  intro xs us r
  cases e : xs[i]? with
  | none =>
    refine .inl ⟨rfl, ?_⟩
    rw [List.getElem?_eq_none_iff] at e ⊢
    rw [← r.length]
    exact e
  | some x =>
    obtain ⟨u, h1, h2⟩ := r.get e
    exact .inr ⟨x, u, rfl, h1, h2⟩
theorem vals_step {xs : List V} {us : List Value} (r : Vals xs us) (g : Nat → Nat) : ∀ l : List Nat, Vals (l.filterMap fun m => xs[g m]?) (l.filterMap fun m => us[g m]?)
  | [] => .nil
  | m :: l => by
    rcases vals_get (i := g m) r with ⟨h1, h2⟩ | ⟨x, u, h1, h2, h3⟩
    · rw [List.filterMap_cons_none (f := fun m => xs[g m]?) h1, List.filterMap_cons_none (f := fun m => us[g m]?) h2]
      exact vals_step r g l
    · rw [List.filterMap_cons_some (f := fun m => xs[g m]?) h1, List.filterMap_cons_some (f := fun m => us[g m]?) h2]
      exact .cons h3 (vals_step r g l)
section
variable {prog : Program} {w : World} {A : Around} {E : Value → Shared → Prop} {s : Shared}
theorem sliceApplied_st {sl : Addr} {vl vu vs : Value} {lo hi : Option Int} {st : Int} {n : Nat} {Q : Int × Int × Nat → Shared → Prop} (hs : s.heap.IsSliceOf sl vl vu vs) (pl : IsPart vl lo) (pu : IsPart vu hi) (ps : IsPart vs (some st)) (h0 : st ≠ 0)
    (h : Q ((Builtin.Slice.sliceAdjust lo hi st (n : Int)).1, st, Builtin.Slice.slicePlaces (Builtin.Slice.sliceAdjust lo hi st (n : Int)).1 (Builtin.Slice.sliceAdjust lo hi st (n : Int)).2 st) s) : wpAny (model prog w) A (Builtin.Slice.sliceApplied (.ref sl) (pure (n : Int))) Q E s := by
  obtain ⟨os, hos, hcs, hds⟩ := id hs
  unfold Builtin.Slice.sliceApplied Builtin.Slice.sliceFields
  refine wpAny_bind (wpAny_bind (wpAny_field hos hds (x := vl) rfl (wpAny_bind (wpAny_field hos hds (x := vu) rfl (wpAny_bind (wpAny_field hos hds (x := vs) rfl (wpAny_pure ?_)))))))
  refine wpAny_bind (HT.slicePart_ ps ?_)
  show wpAny _ _ (if (st == 0) = true then _ else _) _ _ s
  rw [if_neg (by simpa using h0)]
  refine wpAny_bind (HT.slicePart_ pl (wpAny_bind (HT.slicePart_ pu (wpAny_bind (wpAny_pure ?_)))))
  exact wpAny_pure h
theorem getItem_tuple_st {t sl : Addr} {items : Array Value} {vl vu vs : Value} {lo hi : Option Int} {st : Int} {Q : Value → Shared → Prop} (ht : IsTup s.heap t items) (hs : s.heap.IsSliceOf sl vl vu vs) (pl : IsPart vl lo) (pu : IsPart vu hi) (ps : IsPart vs (some st)) (h0 : st ≠ 0) (h1 : st ≠ 1) {i : Int} {k : Nat}
    (ei : i = (Builtin.Slice.sliceAdjust lo hi st (items.size : Int)).1) (ek : k = Builtin.Slice.slicePlaces (Builtin.Slice.sliceAdjust lo hi st (items.size : Int)).1 (Builtin.Slice.sliceAdjust lo hi st (items.size : Int)).2 st)
    (h : Q (.ref s.heap.objs.size) { s with heap := s.heap.push { cls := .type "tuple", data := .seq (stepL items.toList i st k).toArray } })
    (hsz : k ≤ sizeLine) : wpAny (model prog w) A (getItem (.ref t) (.ref sl)) Q E s := by
  have htake : sizeOk (.seq (stepL items.toList i st k).toArray) := by
    show (stepL items.toList i st k).toArray.size ≤ sizeLine
    rw [List.size_toArray]
    unfold stepL
    exact Nat.le_trans (List.length_filterMap_le _ _) (by rw [List.length_range]; exact hsz)
  obtain ⟨os, hos, hcs, hds⟩ := id hs
  have hTs : s.TypeIs (.ref sl) "slice" := ⟨os, hos, hcs⟩
  unfold getItem
  try with_reducible refine wpAny_holding ?_
  first | refine wpAny_bind (wpAny_pure ?_) | skip
  refine wpAny_bind (wpAny_sequenceKey ht.typeIs (by decide) ?_)
  refine wpAny_bind (wpAny_callSpecial?_slot (name := Str.ofString "__getitem__") ht.typeIs PyProof.Rows.slot_tuple_getitem
    (wpAny_call_entry PyProof.Rows.slot_tuple_getitem ht.typeIs entry_tuple_getitem ?_ (args_tuple_getitem _ _)))
  show wpAny _ _ (Builtin.Tuple.tupleItemsOf (.ref t) >>= _) _ _ s
  refine wpAny_bind (tupleItemsOf_ ht ?_)
  refine wpAny_bind (wpAny_typeOf hTs ?_)
  rw [if_pos (by decide)]
  refine wpAny_bind (sliceApplied_st hs pl pu ps h0 ?_)
  rw [← ei] at ek ⊢
  rw [← ek]
  have hno : ¬ ((i == 0 && st == 1 && k == items.size) = true) := by
    intro q
    rw [Bool.and_eq_true, Bool.and_eq_true] at q
    exact h1 (eq_of_beq q.1.2)
  show wpAny _ _ (if (i == 0 && st == 1 && k == items.size) = true then _ else _) _ _ s
  rw [if_neg hno]
  have e : ((List.range k).filterMap fun (m : Nat) => items[(i + (m : Int) * st).toNat]?) = stepL items.toList i st k := by
    unfold stepL
    congr 1
    funext m
    rw [Array.getElem?_toList]
  rw [e]
  first
    | exact wpAny_bind (m := Builtin.Tuple.tupleExact _) (wpAny_newObj_type (wpAny_pure ⟨_, rfl, wpAny_pure h⟩) htake)
    | exact wpAny_bind (m := Builtin.Tuple.tupleExact _) (wpAny_newObj_type (wpAny_bind (wpAny_pure (wpAny_pure ⟨_, rfl, wpAny_pure h⟩))) htake)
    | exact wpAny_bind (wpAny_bind (m := Builtin.Tuple.tupleExact _) (wpAny_newObj_type (wpAny_pure (wpAny_pure ⟨_, rfl, wpAny_pure h⟩)) htake))
    | exact wpAny_bind (wpAny_bind (m := Builtin.Tuple.tupleExact _) (wpAny_newObj_type (wpAny_pure ⟨_, rfl, wpAny_pure h⟩) htake))
end
/-- t[lo::st] -/
def tStT (K : PySem.W.Frag) (te : TE) (tl : TO) (ts : TO) : TE := fun σ H Q => te σ H fun x H1 => tl σ H1 fun l H2 => ts σ H2 fun o H3 => ∃ (a : Addr) (xs : List V) (st i : Int) (k : Nat), x = .ref a ∧ SqT K H3 a xs ∧ o = some st ∧ st ≠ 0 ∧ st ≠ 1 ∧ i = (Builtin.Slice.sliceAdjust l none st (xs.length : Int)).1 ∧ k = Builtin.Slice.slicePlaces (Builtin.Slice.sliceAdjust l none st (xs.length : Int)).1 (Builtin.Slice.sliceAdjust l none st (xs.length : Int)).2 st ∧ k ≤ sizeLine ∧
  ∀ p, H3 p = none → Q (.ref p) (upd H3 p (.tup (stepL xs i st k)))
theorem pe_stT {X : Cx} {e se : Expr} {lo : Option Expr} {te : TE} {tl ts : TO} {p2 pos : Pos} (he : PE X e te) (hl : PO X lo tl) (hst : PO X (some se) ts) : PE X (.Subscript e (.Slice lo none (some se) p2) pos) (tStT X.K te tl ts) := by
  refine ⟨fun pins s σ H Q I h => ?_⟩
  refine Subscript_ (thn (he.run pins s σ H _ I h) fun v s1 ⟨x, H1, I1, r1, q1⟩ => ?_)
  refine wpAny_Slice (thn (hl.run pins s1 σ H1 _ I1 q1) fun vl s2 ⟨l, H2, I2, pl, q2⟩ => ?_)
  refine thn (po_none.run pins s2 σ H2 (fun o H3 => o = none ∧ H3 = H2) I2 ⟨rfl, rfl⟩) fun vu s3 ⟨u, H3, I3, pu, eu, e3⟩ => ?_
  subst eu e3
  refine thn (hst.run pins s3 σ H3 _ I3 q2) fun vs s4 ⟨o, H4, I4, ps, a, xs, st, i, k, ex, hx, eo, n0, n1, ei, ek, hk, q⟩ => ?_
  subst ex eo
  cases r1
  have I5 : Inv X pins σ H4 { s4 with heap := s4.heap.push { cls := .type "slice", data := .fields #[vl, vu, vs] } } := I4.kept (t' := s4.toks) fun b ob q => Heap.get?_push_of_some _ q
  obtain ⟨its, r, ht, hz⟩ := I5.tuple hx
  have hlen : its.toArray.size = xs.length := by rw [List.size_toArray]; exact r.length.symm
  show wpAny (model X.prog X.w) X.A (subscriptTail e (.Slice lo none (some se) p2) (.ref a) (.ref s4.heap.objs.size)) (EP X pins σ Q) X.xe { s4 with heap := s4.heap.push { cls := .type "slice", data := .fields #[vl, vu, vs] } }
  refine tail_any (ops := [.ref a, .ref s4.heap.objs.size]) ht.typeIs (PyProof.Rows.slot_tuple_getitem.lookup) ?_ (by with_unfolding_all rfl)
  refine getItem_tuple_st (i := i) (k := k) ht (Heap.IsSliceOf.new _ vl vu vs) pl pu ps n0 n1 (by rw [hlen]; exact ei) (by rw [hlen]; exact ek) ?_ hk
  refine ⟨.ref _, _, I5.laid (t' := s4.toks) (o := .tup (stepL xs i st k)) (fun b ob q => Heap.get?_push_of_some _ q) (Nat.le_refl _) ?_, rfl, q _ (I5.hok.fresh (Nat.le_refl _))⟩
  refine ⟨?_, _, vals_step r _ _, IsTup.new _ _⟩
  unfold stepL
  exact Nat.le_trans (List.length_filterMap_le _ _) (by rw [List.length_range]; exact hk)
end Tw

/-! enumerate of a list or a tuple; every second number of a row; the fits of woven rows. -/
namespace Tw
open PySem PySem.Spec PyProof.Rows L2
abbrev enO (it : Addr) : Obj := { cls := .type "enumerate", data := .fields #[.none, .bool false, .ref it, rawInt 0, .none, .none] }
theorem enum_meets {v : Value} {o : Obj} {G : Heap → Prop} (B : Begins v o G) : Meets (Builtin.«enumerate.__new__» ⟨[.type "enumerate", v], []⟩) (fun _ R z => G z.heap ∧ R (.ok (.ret (.ref (z.heap.push o).objs.size))) { z with heap := (z.heap.push o).push (enO z.heap.objs.size) }) :=
  .of_wp fun prog w A R z h => by
    obtain ⟨hp, gl, dp, tk, os⟩ := z
    obtain ⟨hG, hR⟩ := h
    have isub := sub_enumerate
    have stp : ∀ {A' : Around} {E Q : Value → Shared → Prop}, Q (.ref hp.objs.size) ⟨hp.push o, gl, dp, tk, os⟩ → wpAny (model prog w) A' (pyIter v) Q E ⟨hp, gl, dp, tk, os⟩ := fun q => B.iter prog w _ _ ⟨hp, gl, dp, tk, os⟩ _ hG q
    wp_walk using stp
    refine wpAny_stack_any fun zs => wpAny_pure ?_
    split
    · rename_i c _ _ _ _ _
      cases (c == Value.type "enumerate")
      · wp_walk using stp
        exact ⟨_, rfl, hR⟩
      · wp_walk using stp
        exact ⟨_, rfl, hR⟩
    · wp_walk using stp
      exact ⟨_, rfl, hR⟩
section
variable {prog : Program} {w : World} {A : Around} {E : Value → Shared → Prop} {s : Shared}
theorem enum_begins1 {v : Value} {o : Obj} {G : Heap → Prop} {Q : Value → Shared → Prop} (B : Begins v o G) (hG : G s.heap)
    (k : ∀ h', IsEnum h' (s.heap.objs.size + 1) s.heap.objs.size 0 .none → h'.get? s.heap.objs.size = some o → (∀ b ob, s.heap.get? b = some ob → h'.get? b = some ob) → Q (.ref (s.heap.objs.size + 1)) { s with heap := h' }) : wpAny (model prog w) A (call (.type "enumerate") [v]) Q E s := by
  refine callType_new F.called_enumerate (by decide) (F.typeCall_enumerate_1 _) (F.newCall_enumerate_1 _) (fun obj => F.args_object_init_2 obj _) F.entry_enumerate_new (enum_meets B) ⟨hG, ?_⟩
  have zs : (s.heap.push o).objs.size = s.heap.objs.size + 1 := Heap.size_push ..
  show _ ∧ _
  rw [zs]
  have en : IsEnum ((s.heap.push o).push (enO s.heap.objs.size)) (s.heap.objs.size + 1) s.heap.objs.size 0 .none := by
    have := Heap.get?_push_size (s.heap.push o) (o := enO s.heap.objs.size) rfl
    rw [zs] at this
    exact this
  exact ⟨⟨_, en, rfl⟩, k _ en (Heap.get?_push_of_some _ (Heap.get?_push_size _ B.free)) fun b ob x => Heap.get?_push_of_some _ (Heap.get?_push_of_some _ x)⟩
end
/-- the row at a, each item in a new pair with its place -/
def Itex (K : PySem.W.Frag) (t : Bool) (a : Addr) : It :=
  ⟨fun i H => ∃ (xs : List V) (x : V), SqX K t H a xs ∧ xs[i]? = some x, fun i H v H' => ∃ T x, v = .ref T ∧ H T = none ∧ H' = upd H T (.tup [.int (i : Nat), x]) ∧ ∀ xs, SqX K t H a xs → xs[i]? = some x, fun i H => ∃ xs : List V, SqX K t H a xs ∧ xs.length = i⟩
theorem turn_ex {P : Program} {w : World} {K : PySem.W.Frag} {elts : List Expr} {kk : Nat} {tpos : Pos} {t : Bool} {a e it : Addr} (ne : e ≠ it) (na : e ≠ a) (ni : a ≠ it) :
    Turn P w K (.Tuple elts kk tpos) (Itex K t a) [e, it] e (fun i h => (∃ old, IsEnum h e it ((i : Nat) : Int) old) ∧ ItX t h it a i) where
  mem := by simp
  obj := fun i h st b hb => by
    obtain ⟨⟨old, en⟩, hi⟩ := st
    have e' : b = e ∨ b = it := by simpa using hb
    rcases e' with q | q
    · rw [q]; exact ⟨_, en, fun v q => nomatch q⟩
    · rw [q]; exact hi.obj
  keep := fun i h h' st k => by
    obtain ⟨⟨old, en⟩, hi⟩ := st
    exact ⟨⟨old, k e (by simp) _ en⟩, hi.over fun o q => k it (by simp) o q⟩
  item := by
    intro X hP hw hK hc i pins s σ H E I hf st hg
    subst hP hw hK
    obtain ⟨⟨old, en⟩, hi⟩ := st
    obtain ⟨xs, x, hq, hx⟩ := hg
    obtain ⟨its, rv, p, _⟩ := srcX I hq
    obtain ⟨u, hu, ru⟩ := rv.get hx
    have hh : X.A.in1.handled = none := I.ok.hd hc
    have hel : e < s.heap.objs.size := Heap.lt_size en
    have hil : it < s.heap.objs.size := by obtain ⟨_, q, _⟩ := hi.obj; exact Heap.lt_size q
    refine wpAny_pyNext_enum_itemD (drawsX t hh it a ni its.toArray) en ⟨hi, p⟩ (by have := (List.getElem?_eq_some_iff.mp hu).1; simpa using this) ne (by simp [ne, na]) fun z h' tk ez ho hn hT hsz hk => ?_
    obtain rfl : z = u := by
      rw [List.getElem?_toArray] at ez
      exact Option.some.inj (ez.symm.trans hu)
    refine ⟨_, rfl, wpAny_letOwnedTupleGo_enum (s := { s with heap := h', toks := tk + 1 }) ho fun h'' en' sb => ?_⟩
    have hT2 : h''.get? s.heap.objs.size = some { cls := .type "tuple", data := .seq #[.int i tk, z] } := (sb.2 _ (Nat.ne_of_gt hel)).trans hT
    have new : ObjOk X.prog X.w (upd H s.heap.objs.size (.tup [.int (i : Nat), x])) h'' s.heap.objs.size (.tup [.int (i : Nat), x]) :=
      ⟨by show 2 ≤ sizeLine; decide, [.int i tk, z], .cons ⟨_, rfl⟩ (.cons ru .nil), ⟨_, hT2, rfl, _, rfl⟩⟩
    have I1 : Inv X pins σ (upd H s.heap.objs.size (.tup [.int (i : Nat), x])) { s with heap := h'', toks := tk + 1 } :=
      I.turnedNew (t' := tk + 1) (ch := [e, it]) (fun b ob hb q => (sb.2 b (fun r => hb (by simp [r]))).trans (hk b ob (fun r => hb (by simp [r])) (fun r => hb (by simp [r])) q)) hf (Nat.le_refl _) new
    refine ⟨.ref s.heap.objs.size, _, I1, rfl, ⟨_, x, rfl, I.hok.fresh (Nat.le_refl _), rfl, fun ys hy => by rw [injX I hy hq]; exact hx⟩, ⟨⟨z, ?_⟩, hn.1.over fun o q => (sb.2 it (Ne.symm ne)).trans q⟩, fun b hb => ?_⟩
    · have e1 : ((i + 1 : Nat) : Int) = (i : Int) + 1 := by omega
      rw [e1]
      exact en'
    · have hb' : b < s.heap.objs.size := by
        have e' : b = e ∨ b = it := by simpa using hb
        rcases e' with q | q
        · rw [q]; exact hel
        · rw [q]; exact hil
      rw [upd_ne (Nat.ne_of_lt hb')]
      exact (hf b hb).1
  done := by
    intro X hP hw hK hc i pins s σ H E I hf st hg
    subst hP hw hK
    obtain ⟨⟨old, en⟩, hi⟩ := st
    obtain ⟨xs, hq, hx⟩ := hg
    obtain ⟨its, rv, p, _⟩ := srcX I hq
    have hh : X.A.in1.handled = none := I.ok.hd hc
    obtain ⟨f0, f1, f2, f3, f4, f5⟩ := hf it (by simp)
    have hl := rv.length
    have ez : its.toArray.size = i := by simp; omega
    exact wpAny_pyNext_enum_endD (drawsX t hh it a ni its.toArray) en (by rw [ez]; exact ⟨hi, p⟩) fun h' eb => ⟨rfl, I.turned (t' := s.toks) (fun b o hb q => eb b o hb q) f0 f1 f3 f4 f5⟩
  self := fun A i s Q E st h => let ⟨⟨_, en⟩, _⟩ := st; wpAny_pyIter_enum en h
def iEnumX (K : PySem.W.Frag) (ta : TA) : TI := fun σ H R => ta σ H fun vs H1 => ∃ (t : Bool) (a : Addr) (xs : List V), vs = [.ref a] ∧ SqX K t H1 a xs ∧ R (Itex K t a) H1
theorem pi_enumX {X : Cx} {e : Expr} {ta : TA} {p pos tpos : Pos} {elts : List Expr} {kk : Nat} (hg : Gl X "enumerate") (hm : X.mg "enumerate" = none) (ha : PA X [e] ta) (hs : starEach [e] X.env = [(false, eval e X.env)] := by rfl) :
    PI X (.Tuple elts kk tpos) (.Call (.Name "enumerate" p) [e] [] pos) (iEnumX X.K ta) := by
  refine ⟨fun pins s σ H R I h => Call_ (ld_blt I hg hm boot_enumerate (PyProof.Rows.callWith_type1 (thn (ha.run pos pins s σ H _ I h) fun us s1 ⟨vs, H1, I1, r1, q1⟩ => ?_) hs rfl))⟩
  obtain ⟨t, a, xs, ex, hq, q⟩ := q1
  subst ex
  obtain ⟨ss, rv, p', lt⟩ := srcX I1 hq
  obtain ⟨o, B, b⟩ := beginsX t a ss.toArray
  rw [Vals.ref1 r1]
  refine enum_begins1 B p' fun h' en hit hk => wpAny_pyIter_enum en ?_
  have I2 : Inv X pins σ H1 { s1 with heap := h' } := I1.kept (t' := s1.toks) hk
  refine ⟨s1.heap.objs.size + 1, [s1.heap.objs.size + 1, s1.heap.objs.size], _, _, H1, rfl, I2, turn_ex (e := s1.heap.objs.size + 1) (it := s1.heap.objs.size) (a := a) (t := t) (Nat.succ_ne_self _) (fun z => ?_) (Nat.ne_of_lt lt), ⟨⟨.none, en⟩, b _ _ hit⟩, fun c hcm => ?_, q⟩
  · exact absurd lt (by rw [← z]; exact Nat.not_lt.mpr (Nat.le_succ _))
  · have e' : c = s1.heap.objs.size + 1 ∨ c = s1.heap.objs.size := by simpa using hcm
    have hle : s1.heap.objs.size ≤ c := by
      rcases e' with q | q
      · rw [q]; exact Nat.le_add_right _ _
      · rw [q]; exact Nat.le_refl _
    exact I1.fpOk hle (I1.hok.fresh hle)
theorem walk_ex {K : PySem.W.Frag} {t : Bool} {a : Addr} {xs : List V} : Walk (Itex K t a) xs.length (fun H => SqX K t H a xs) (fun i H v H' => ∃ T x, v = .ref T ∧ H T = none ∧ H' = upd H T (.tup [.int (i : Nat), x]) ∧ xs[i]? = some x) := by
  refine ⟨fun i _ hi q => ⟨xs, xs[i], q, by simp [hi]⟩, fun _ q => ⟨xs, q, rfl⟩, fun i H v H' _ q y => ?_⟩
  obtain ⟨T, x, h1, h2, h3, h4⟩ := y
  exact ⟨T, x, h1, h2, h3, h4 xs q⟩
/-! ### every second one -/
def ev2 (xs : List Int) (i : Nat) : List Int := (List.range ((xs.length + 1 - i) / 2)).map fun j => xs.getD (i + 2 * j) 0
theorem ev2_len (xs : List Int) (i : Nat) : (ev2 xs i).length = (xs.length + 1 - i) / 2 := by unfold ev2; rw [List.length_map, List.length_range]
theorem ev2_get {xs : List Int} {i j : Nat} (h : j < (xs.length + 1 - i) / 2) : (ev2 xs i).getD j 0 = xs.getD (i + 2 * j) 0 := by
  unfold ev2
  rw [List.getD_eq_getElem?_getD, List.getElem?_map, List.getElem?_range h]
  rfl
theorem fm_some {α β : Type} (f : α → Option β) (g : α → β) : ∀ l : List α, (∀ a ∈ l, f a = some (g a)) → l.filterMap f = l.map g
  | [], _ => rfl
  | a :: l, h => by rw [List.filterMap_cons_some (h a List.mem_cons_self), List.map_cons, fm_some f g l (fun b hb => h b (List.mem_cons_of_mem _ hb))]
theorem stepL_two {xs : List Int} {i : Nat} (i1 : i ≤ 1) : stepL (xs.map V.int) (i : Int) 2 ((xs.length + 1 - i) / 2) = (ev2 xs i).map V.int := by
  unfold stepL ev2
  rw [List.map_map]
  refine fm_some _ _ _ fun j hj => ?_
  have hj := List.mem_range.mp hj
  have e : ((i : Int) + (j : Int) * 2).toNat = i + 2 * j := by omega
  rw [e, List.getElem?_map, List.getElem?_eq_getElem (by omega)]
  show some (V.int xs[i + 2 * j]) = some (V.int (xs.getD (i + 2 * j) 0))
  rw [get_D (List.getElem?_eq_getElem (show i + 2 * j < xs.length by omega))]
theorem st_fx {xs : List Int} {i : Nat} {l : Option Int} (hl : l = some (i : Int) ∨ (l = none ∧ i = 0)) (i1 : i ≤ 1) (x1 : 1 ≤ xs.length) (x2 : xs.length ≤ 100000) : (i : Int) = (Builtin.Slice.sliceAdjust l none 2 ((xs.map V.int).length : Int)).1 ∧
    (xs.length + 1 - i) / 2 = Builtin.Slice.slicePlaces (Builtin.Slice.sliceAdjust l none 2 ((xs.map V.int).length : Int)).1 (Builtin.Slice.sliceAdjust l none 2 ((xs.map V.int).length : Int)).2 2 ∧ (xs.length + 1 - i) / 2 ≤ sizeLine := by
  have e1 : (Builtin.Slice.sliceAdjust l none 2 ((xs.map V.int).length : Int)).1 = (i : Int) := by
    rw [List.length_map]
    rcases hl with rfl | ⟨rfl, rfl⟩
    · unfold Builtin.Slice.sliceAdjust
      simp only [show ¬ ((2 : Int) < 0) by decide, if_false]
      show (if (i : Int) < 0 then _ else min (i : Int) (xs.length : Int)) = _
      rw [if_neg (by omega)]
      omega
    · rfl
  have e2 : (Builtin.Slice.sliceAdjust l none 2 ((xs.map V.int).length : Int)).2 = (xs.length : Int) := by
    rw [List.length_map]
    rfl
  have e3 : Builtin.Slice.slicePlaces (i : Int) (xs.length : Int) 2 = (xs.length + 1 - i) / 2 := by
    unfold Builtin.Slice.slicePlaces
    rw [if_pos (by decide)]
    split <;> omega
  exact ⟨e1.symm, by rw [e1, e2, e3], Nat.le_trans (show _ ≤ 100000 by omega) (by decide)⟩
/-- the numbers of a woven row are numbers of their row's bound -/
def bdw (m1 m2 : Int) (i : Nat) : Int := if i % 2 = 0 then m1 else m2
def RngW (m1 m2 : Int) (xs : List Int) : Prop := ∀ i, i < xs.length → 0 ≤ xs.getD i 0 ∧ xs.getD i 0 < bdw m1 m2 i
def FirstBadW (m1 m2 : Int) (xs : List Int) (i : Nat) : Prop := i < xs.length ∧ ¬ (0 ≤ xs.getD i 0 ∧ xs.getD i 0 < bdw m1 m2 i) ∧ ∀ j, j < i → 0 ≤ xs.getD j 0 ∧ xs.getD j 0 < bdw m1 m2 j
theorem rngW_ev {m1 m2 : Int} {xs : List Int} (h : RngW m1 m2 xs) {i : Nat} (i1 : i ≤ 1) : Rng (bdw m1 m2 i) (ev2 xs i) := by
  intro x hx
  unfold ev2 at hx
  obtain ⟨j, hj, rfl⟩ := List.mem_map.mp hx
  have hj := List.mem_range.mp hj
  have := h (i + 2 * j) (by omega)
  have e : bdw m1 m2 (i + 2 * j) = bdw m1 m2 i := by unfold bdw; rw [Nat.add_mul_mod_self_left]
  rw [e] at this
  exact this
theorem rngW_or_bad (m1 m2 : Int) (xs : List Int) : RngW m1 m2 xs ∨ ∃ i, FirstBadW m1 m2 xs i := by
  have : ∀ k, k ≤ xs.length → (∀ j, j < k → 0 ≤ xs.getD j 0 ∧ xs.getD j 0 < bdw m1 m2 j) ∨ ∃ i, FirstBadW m1 m2 xs i := by
    intro k
    induction k with
    | zero => exact fun _ => .inl fun j hj => absurd hj (Nat.not_lt_zero _)
    | succ k ih =>
      intro hk
      rcases ih (by omega) with h | h
      · by_cases b : 0 ≤ xs.getD k 0 ∧ xs.getD k 0 < bdw m1 m2 k
        · refine .inl fun j hj => ?_
          by_cases e : j = k
          · rw [e]; exact b
          · exact h j (by omega)
        · exact .inr ⟨k, by omega, b, h⟩
      · exact .inr h
  exact this xs.length (Nat.le_refl _)
def pUnw (K : PySem.W.Frag) (CN : Addr) : V → V → V → Hp → VK → XK → Prop := fun a b c H Q E => ∃ (r : Addr) (xs : List Int) (m1 m2 : Int), a = .ref r ∧ b = .int m1 ∧ c = .int m2 ∧ SqT K H r (xs.map V.int) ∧ 1 ≤ m1 ∧ m1 ≤ 1000000000000 ∧ 1 ≤ m2 ∧ m2 ≤ 1000000000000 ∧ 1 ≤ xs.length ∧ xs.length ≤ 1000 ∧
  (RngW m1 m2 xs → ∀ H' q v1 v2, Same H H' → H q = none → H' q = some (.tup [v1, v2]) → FitV m1 (ev2 xs 0) ((ev2 xs 0).length - 2) H' v1 → FitV m2 (ev2 xs 1) ((ev2 xs 1).length - 2) H' v2 → Q (.ref q) H') ∧ (∀ i, FirstBadW m1 m2 xs i → ∀ H', Same H H' → Bad CN (xs.getD i 0) H' E)
/-- alike: both None, or tuples of the same whole numbers -/
def Alk (H : Hp) (v u : V) : Prop := (v = .non ∧ u = .non) ∨ ∃ (a b : Addr) (xs : List Int), v = .ref a ∧ u = .ref b ∧ H a = some (.tup (xs.map V.int)) ∧ H b = some (.tup (xs.map V.int))
theorem Alk.same {H H' : Hp} {v u : V} (h : Alk H v u) (s : Same H H') : Alk H' v u := by
  rcases h with h | ⟨a, b, xs, e1, e2, h1, h2⟩
  · exact .inl h
  · exact .inr ⟨a, b, xs, e1, e2, s _ _ h1, s _ _ h2⟩
theorem FitV.alk {m : Int} {xs : List Int} {j : Nat} {H : Hp} {v u : V} (a : FitV m xs j H v) (b : FitV m xs j H u) : Alk H v u := by
  rcases a.two b with h | ⟨q, p, l, s, e1, e2, h1, h2, _⟩
  · exact .inl h
  · exact .inr ⟨q, p, [l, s], e1, e2, h1, h2⟩
def pSameF : V → V → Hp → VK → XK → Prop := fun a b H Q _ => ∃ (p q : Addr) (v1 v2 u1 u2 : V), a = .ref p ∧ b = .ref q ∧ H p = some (.tup [v1, v2]) ∧ H q = some (.tup [u1, u2]) ∧ Alk H v1 u1 ∧ Alk H v2 u2 ∧ ∀ H', Same H H' → Q (.bl true) H'
def pSp25 (K : PySem.W.Frag) : V → V → V → Hp → VK → XK → Prop := fun a b c H Q _ => ∃ (d r lb : Addr) (n : Nat) (m1 m2 : Int) (xs : List Int), a = .ref d ∧ b = .ref r ∧ c = .ref lb ∧ DeckB H d n ∧ n + 20 ≤ 100000000 ∧ SqT K H r (xs.map V.int) ∧ H lb = some (.lst [.int m1, .int m2]) ∧ 1 ≤ m1 ∧ m1 ≤ 1000000000000 ∧ 1 ≤ m2 ∧ m2 ≤ 1000000000000 ∧ 4 ≤ xs.length ∧ xs.length ≤ 60 ∧
  ∀ H' q (zs : List Int), But d H H' → DeckB H' d (n + 20) → H q = none → H' q = some (.tup (zs.map V.int)) → zs.length = xs.length → Q (.ref q) H'
def pRight25 (K : PySem.W.Frag) : V → V → Hp → VK → XK → Prop := fun a b H Q _ => ∃ (r lb : Addr) (m1 m2 : Int) (xs : List Int), a = .ref r ∧ b = .ref lb ∧ SqT K H r (xs.map V.int) ∧ H lb = some (.lst [.int m1, .int m2]) ∧ 1 ≤ m1 ∧ m1 ≤ 1000000000000 ∧ 1 ≤ m2 ∧ m2 ≤ 1000000000000 ∧ 4 ≤ xs.length ∧ xs.length ≤ 60 ∧ ∀ H', Same H H' → Q (.bl true) H'
theorem mul_abs {a b A B : Int} (a1 : -A ≤ a) (a2 : a ≤ A) (b1 : -B ≤ b) (b2 : b ≤ B) : -(A * B) ≤ a * b ∧ a * b ≤ A * B := by
  have h : a.natAbs * b.natAbs ≤ A.natAbs * B.natAbs := Nat.mul_le_mul (by omega) (by omega)
  rw [← Int.natAbs_mul, ← Int.natAbs_mul] at h
  have : 0 ≤ A * B := Int.mul_nonneg (by omega) (by omega)
  omega
theorem div_abs {a d A : Int} (d0 : 0 < d) (a1 : -A ≤ a) (a2 : a ≤ A) : -A ≤ a / d ∧ a / d ≤ A := by
  have h0 : 0 ≤ A := by omega
  have h1 : A * 1 ≤ A * d := Int.mul_le_mul_of_nonneg_left (by omega) h0
  have h2 : -A * d = -(A * d) := by grind
  exact ⟨Int.le_ediv_of_mul_le d0 (by omega), Int.ediv_le_of_le_mul d0 (by omega)⟩
theorem gcd_ab (x m : Int) : Int.gcd (ab x) m = Int.gcd x m := by
  show Nat.gcd (ab x).natAbs m.natAbs = Nat.gcd x.natAbs m.natAbs
  rw [ab_nat]
theorem fit_own_none {m l st : Int} {xs : List Int} {k : Nat} (m0 : 0 < m) (F : FitR m xs k (some (l, st))) (hn : (gat xs (k + 1) - l * gat xs k) % (Int.gcd (st * gat xs k) m : Nat) ≠ 0) : FitR m xs (k + 1) none := by
  refine fit_none m0 F (fun z => hn ?_)
  rw [gcd_red] at z
  obtain ⟨c, hc⟩ : ((Int.gcd (st * gat xs k) m : Nat) : Int) ∣ m := Int.gcd_dvd_right ..
  obtain ⟨e, he⟩ := Int.dvd_of_emod_eq_zero z
  refine Int.emod_eq_zero_of_dvd ⟨e + c * (gat xs (k + 1) / m - l * gat xs k / m), ?_⟩
  have h1 := Int.mul_ediv_add_emod (gat xs (k + 1)) m
  have h2 := Int.mul_ediv_add_emod (l * gat xs k) m
  generalize ((Int.gcd (st * gat xs k) m : Nat) : Int) = d at *
  generalize gat xs (k + 1) / m = q1 at *
  generalize l * gat xs k / m = q2 at *
  rw [← h1, ← h2, Int.mul_add, ← he, ← Int.mul_assoc, ← hc]
  grind
theorem fit_own {m l st v : Int} {xs : List Int} {k : Nat} (m0 : 0 < m) (F : FitR m xs k (some (l, st))) (hd : (gat xs (k + 1) - l * gat xs k) % (Int.gcd (st * gat xs k) m : Nat) = 0)
    (hv : st * gat xs k / (Int.gcd (st * gat xs k) m : Nat) * v % (m / (Int.gcd (st * gat xs k) m : Nat)) = 1 % (m / (Int.gcd (st * gat xs k) m : Nat))) :
    FitR m xs (k + 1) (some (l + st * ((gat xs (k + 1) - l * gat xs k) / (Int.gcd (st * gat xs k) m : Nat) * v % (m / (Int.gcd (st * gat xs k) m : Nat))), st * (m / (Int.gcd (st * gat xs k) m : Nat)))) := by
  obtain ⟨e1, e2, e3, _⟩ := gcd_parts (t := st * gat xs k) m0
  have xb := mod_bd ((gat xs (k + 1) - l * gat xs k) / (Int.gcd (st * gat xs k) m : Nat) * v) e3
  have B : Bef (st * gat xs k % m) (l * gat xs k % m) m (gat xs (k + 1) % m) ((gat xs (k + 1) - l * gat xs k) / (Int.gcd (st * gat xs k) m : Nat) * v % (m / (Int.gcd (st * gat xs k) m : Nat))) := by
    refine ⟨xb.1, by rw [gcd_red]; exact xb.2, ?_⟩
    refine Int.emod_eq_emod_iff_emod_sub_eq_zero.mpr (Int.emod_eq_zero_of_dvd ?_)
    have h1 := Int.mul_ediv_add_emod (st * gat xs k) m
    have h2 := Int.mul_ediv_add_emod (l * gat xs k) m
    have hD : gat xs (k + 1) - l * gat xs k = (Int.gcd (st * gat xs k) m : Nat) * ((gat xs (k + 1) - l * gat xs k) / (Int.gcd (st * gat xs k) m : Nat)) := (Int.mul_ediv_cancel' (Int.dvd_of_emod_eq_zero hd)).symm
    have h3 := Int.mul_ediv_add_emod ((gat xs (k + 1) - l * gat xs k) / (Int.gcd (st * gat xs k) m : Nat) * v) (m / (Int.gcd (st * gat xs k) m : Nat))
    obtain ⟨c, hc⟩ := Int.dvd_of_emod_eq_zero (Int.emod_eq_emod_iff_emod_sub_eq_zero.mp hv)
    generalize hx : (gat xs (k + 1) - l * gat xs k) / (Int.gcd (st * gat xs k) m : Nat) * v % (m / (Int.gcd (st * gat xs k) m : Nat)) = x at *
    generalize (gat xs (k + 1) - l * gat xs k) / (Int.gcd (st * gat xs k) m : Nat) * v / (m / (Int.gcd (st * gat xs k) m : Nat)) = q3 at *
    generalize (gat xs (k + 1) - l * gat xs k) / (Int.gcd (st * gat xs k) m : Nat) = D at *
    generalize st * gat xs k / (Int.gcd (st * gat xs k) m : Nat) = G at *
    generalize hL : m / (Int.gcd (st * gat xs k) m : Nat) = L at *
    generalize ((Int.gcd (st * gat xs k) m : Nat) : Int) = d at *
    generalize st * gat xs k % m = r1 at *
    generalize l * gat xs k % m = r2 at *
    generalize st * gat xs k / m = q1 at *
    generalize l * gat xs k / m = q2 at *
    refine ⟨D * c - G * q3 - q1 * x - q2, ?_⟩
    have f1 : r1 = d * G - m * q1 := by omega
    have f2 : r2 - gat xs (k + 1) = -(d * D) - m * q2 := by omega
    have f3 : x = D * v - L * q3 := by omega
    have f4 : G * v = 1 + L * c := by omega
    have f5 : r1 * x + r2 - gat xs (k + 1) = r1 * x + (r2 - gat xs (k + 1)) := by omega
    rw [f5, f2, f1]
    have f6 : d * G * x = d * D + m * (D * c) - m * (G * q3) := by
      have g1 : G * x = D + L * (D * c) - L * (G * q3) := by
        rw [f3]
        have : G * (D * v - L * q3) = D * (G * v) - L * (G * q3) := by grind
        rw [this, f4]
        grind
      have g2 : d * G * x = d * (G * x) := by grind
      rw [g2, g1]
      have g3 : d * (D + L * (D * c) - L * (G * q3)) = d * D + d * L * (D * c) - d * L * (G * q3) := by grind
      rw [g3, ← e2]
    have f7 : (d * G - m * q1) * x = d * G * x - m * (q1 * x) := by grind
    rw [f7, f6]
    grind
  have := fit_some m0 F B
  rw [gcd_red, Int.mul_comm _ st, Int.mul_comm _ st] at this
  exact this
theorem shift_iff {f : Int → Int} {xs : List Int} : (xs.map f).dropLast = xs.drop 1 ↔ ∀ i, i < xs.length - 1 → f (xs.getD i 0) = xs.getD (i + 1) 0 := by
  constructor
  · intro h i hi
    have e := congrArg (fun l => l[i]?) h
    simp only [List.getElem?_drop] at e
    rw [List.getElem?_dropLast, List.length_map, if_pos hi, List.getElem?_map, List.getElem?_eq_getElem (by omega), Nat.add_comm 1 i, List.getElem?_eq_getElem (show i + 1 < xs.length by omega)] at e
    rw [get_D (List.getElem?_eq_getElem (show i < xs.length by omega)), get_D (List.getElem?_eq_getElem (show i + 1 < xs.length by omega))]
    exact Option.some.inj e
  · intro h
    refine List.ext_getElem? fun i => ?_
    rw [List.getElem?_drop, List.getElem?_dropLast, List.length_map]
    by_cases hi : i < xs.length - 1
    · rw [if_pos hi, List.getElem?_map, List.getElem?_eq_getElem (by omega), Nat.add_comm 1 i, List.getElem?_eq_getElem (show i + 1 < xs.length by omega)]
      have := h i hi
      rw [get_D (List.getElem?_eq_getElem (show i < xs.length by omega)), get_D (List.getElem?_eq_getElem (show i + 1 < xs.length by omega))] at this
      show some _ = some _
      rw [this]
    · rw [if_neg hi, List.getElem?_eq_none (by omega)]
/-- the numbers that are none of their row's bound, of the first j -/
def Wrg (m1 m2 : Int) (xs : List Int) (j : Nat) (ws : List Int) : Prop := (ws = [] ∧ ∀ i, i < j → 0 ≤ xs.getD i 0 ∧ xs.getD i 0 < bdw m1 m2 i) ∨ ∃ i t, FirstBadW m1 m2 xs i ∧ i < j ∧ ws = xs.getD i 0 :: t
theorem Wrg.zero {m1 m2 : Int} {xs : List Int} : Wrg m1 m2 xs 0 [] := .inl ⟨rfl, fun i hi => absurd hi (Nat.not_lt_zero _)⟩
theorem Wrg.good {m1 m2 : Int} {xs ws : List Int} {j : Nat} (h : Wrg m1 m2 xs j ws) (g : 0 ≤ xs.getD j 0 ∧ xs.getD j 0 < bdw m1 m2 j) : Wrg m1 m2 xs (j + 1) ws := by
  rcases h with ⟨e, h⟩ | ⟨i, t, f, l, e⟩
  · refine .inl ⟨e, fun i hi => ?_⟩
    by_cases c : i = j
    · rw [c]; exact g
    · exact h i (by omega)
  · exact .inr ⟨i, t, f, by omega, e⟩
theorem Wrg.bad {m1 m2 : Int} {xs ws : List Int} {j : Nat} (h : Wrg m1 m2 xs j ws) (l : j < xs.length) (g : ¬ (0 ≤ xs.getD j 0 ∧ xs.getD j 0 < bdw m1 m2 j)) : Wrg m1 m2 xs (j + 1) (ws ++ [xs.getD j 0]) := by
  rcases h with ⟨e, h⟩ | ⟨i, t, f, l', e⟩
  · exact .inr ⟨j, [], ⟨l, g, h⟩, by omega, by rw [e]; rfl⟩
  · exact .inr ⟨i, t ++ [xs.getD j 0], f, by omega, by rw [e]; rfl⟩
theorem FirstBadW.uniq {m1 m2 : Int} {xs : List Int} {i j : Nat} (a : FirstBadW m1 m2 xs i) (b : FirstBadW m1 m2 xs j) : i = j := by
  by_cases h : i < j
  · exact absurd (b.2.2 i h) a.2.1
  · by_cases h2 : j < i
    · exact absurd (a.2.2 j h2) b.2.1
    · omega
theorem FirstBadW.no {m1 m2 : Int} {xs : List Int} {i : Nat} (a : FirstBadW m1 m2 xs i) (h : RngW m1 m2 xs) : False := a.2.1 (h i a.1)
theorem bdw_at (m1 m2 : Int) (j : Nat) : atI [V.int m1, V.int m2] ((j : Int) % 2) = some (.int (bdw m1 m2 j)) := by
  unfold bdw
  by_cases h : j % 2 = 0
  · rw [if_pos h, show (j : Int) % 2 = ((0 : Nat) : Int) by omega]
    exact atI_nat rfl
  · rw [if_neg h, show (j : Int) % 2 = ((1 : Nat) : Int) by omega]
    exact atI_nat rfl
theorem cut_last (xs : List Int) : cutV (xs.map V.int) none (some (-1)) = xs.dropLast.map V.int := by
  unfold cutV
  rw [HT.sIx_none, List.length_map]
  have e : HT.sIx xs.length xs.length (some (-1)) = xs.length - 1 := by
    show (if (-1 : Int) < 0 then ((-1 : Int) + (xs.length : Int)).toNat else min (-1 : Int).toNat xs.length) = _
    rw [if_pos (by decide)]
    omega
  rw [e, List.drop_zero, List.dropLast_eq_take, List.map_take, Nat.sub_zero]
/-- a row of four to sixty numbers at q -/
def RowOk (H : Hp) (q : Addr) : Prop := ∃ zs : List Int, H q = some (.tup (zs.map V.int)) ∧ 4 ≤ zs.length ∧ zs.length ≤ 60
theorem RowOk.same {H H' : Hp} {q : Addr} (h : RowOk H q) (s : Same H H') : RowOk H' q := by
  obtain ⟨zs, e, l⟩ := h
  exact ⟨zs, s _ _ e, l⟩
theorem RowOk.but {H H' : Hp} {d q : Addr} {n : Nat} (h : RowOk H q) (D : DeckB H d n) (b : But d H H') : RowOk H' q := by
  obtain ⟨zs, e, l⟩ := h
  exact ⟨zs, b _ _ (D.ne_tup e) e, l⟩
theorem wv_rngW {t1 p1 m1 t2 p2 m2 x y : Int} (m0 : 0 < m1) (n0 : 0 < m2) (hx : 0 ≤ x ∧ x < m1) (hy : 0 ≤ y ∧ y < m2) (n : Nat) : RngW m1 m2 (wv (stp t1 p1 m1) (stp t2 p2 m2) x y n) := by
  intro i hi
  rw [wv_len] at hi
  have e : (wv (stp t1 p1 m1) (stp t2 p2 m2) x y n).getD i 0 = wvA (stp t1 p1 m1) (stp t2 p2 m2) x y i := by
    unfold wv
    rw [List.getD_eq_getElem?_getD, List.getElem?_map, List.getElem?_range hi]
    rfl
  rw [e]
  unfold wvA bdw
  by_cases c : i % 2 = 0
  · rw [if_pos c, if_pos c]
    exact itr_rng m0 hx _
  · rw [if_neg c, if_neg c]
    exact itr_rng n0 hy _
def rl3 (t1 p1 m1 t2 p2 m2 : Int) (k : Nat) : Int := if k = 0 then m1 else m2
def rlo (t1 p1 m1 t2 p2 m2 : Int) (k : Nat) (x : Int) : List Int := if k = 0 then orb (stp t1 p1 m1) 30 x else orb (stp t2 p2 m2) 30 x
theorem rlo_len (t1 p1 m1 t2 p2 m2 : Int) (k : Nat) (x : Int) : (rlo t1 p1 m1 t2 p2 m2 k x).length = 30 := by
  unfold rlo
  split <;> exact orb_len ..
theorem refs_ints {qs : List Addr} {t1 p1 m1 t2 p2 m2 x : Int} {k : Nat} (h : some (HO.lst (qs.map V.ref)) = some (.lst ((rlo t1 p1 m1 t2 p2 m2 k x).map V.int))) : False := by
  have e := rlo_len t1 p1 m1 t2 p2 m2 k x
  injection h with h
  injection h with h
  cases qs with
  | nil =>
    have := congrArg List.length h
    rw [List.length_map, List.length_map, e] at this
    cases this
  | cons a t =>
    cases hr : rlo t1 p1 m1 t2 p2 m2 k x with
    | nil => rw [hr] at e; cases e
    | cons b u => rw [hr] at h; cases h
theorem deck_orb {g y k' t1 p1 m1 t2 p2 m2 x : Int} {k : Nat} (h : some (HO.lst [.int g, .int y, .int k']) = some (.lst ((rlo t1 p1 m1 t2 p2 m2 k x).map V.int))) : False := by
  have e := rlo_len t1 p1 m1 t2 p2 m2 k x
  injection h with h
  injection h with h
  have := congrArg List.length h
  rw [List.length_map, e] at this
  cases this
def pTurned : V → V → Hp → VK → XK → Prop := fun a b H Q _ => ∃ x m : Int, a = .int x ∧ b = .int m ∧ 0 < m ∧ m ≤ 1000000000000 ∧ Int.gcd x m = 1 ∧ ∀ H' v, Same H H' → 0 ≤ v → v < m → x * v % m = 1 % m → Q (.int v) H'
end Tw

/-! Woven rows told back: the rules' own times are among what fits. -/
namespace Tw
open PySem PySem.Spec PyProof.Rows L2
theorem ev2_wv0 (f g : Int → Int) (x y : Int) (n : Nat) : ev2 (wv f g x y (2 * n)) 0 = orb f n x := by
  unfold ev2
  rw [wv_len, show (2 * n + 1 - 0) / 2 = n by omega]
  unfold orb
  refine List.map_congr_left fun j hj => ?_
  have hj := List.mem_range.mp hj
  rw [Nat.zero_add]
  unfold wv
  rw [List.getD_eq_getElem?_getD, List.getElem?_map, List.getElem?_range (by omega)]
  exact wvA_even f g x y j
theorem ev2_wv1 (f g : Int → Int) (x y : Int) (n : Nat) : ev2 (wv f g x y (2 * n)) 1 = orb g n y := by
  unfold ev2
  rw [wv_len, show (2 * n + 1 - 1) / 2 = n by omega]
  unfold orb
  refine List.map_congr_left fun j hj => ?_
  have hj := List.mem_range.mp hj
  unfold wv
  rw [List.getD_eq_getElem?_getD, List.getElem?_map, List.getElem?_range (by omega), Nat.add_comm 1]
  exact wvA_odd f g x y j
/-- the rule's own times fits its row -/
theorem fitU_own {t p m : Int} {n k : Nat} {x : Int} (h : k + 2 ≤ n) : FitU m (orb (stp t p m) n x) k t := by
  intro i hi
  unfold gat
  rw [orb_gDe _ _ (by omega), orb_gDe _ _ (by omega), orb_gDe _ _ (by omega)]
  show m ∣ t * (stp t p m (itr (stp t p m) i x) - itr (stp t p m) i x) - (stp t p m (stp t p m (itr (stp t p m) i x)) - stp t p m (itr (stp t p m) i x))
  generalize itr (stp t p m) i x = a
  have h1 := Int.mul_ediv_add_emod (t * a + p) m
  have h2 := Int.mul_ediv_add_emod (t * stp t p m a + p) m
  have e1 : stp t p m a = (t * a + p) % m := rfl
  have e2 : stp t p m (stp t p m a) = (t * stp t p m a + p) % m := rfl
  rw [← e1] at h1
  rw [← e2] at h2
  generalize stp t p m (stp t p m a) = c at *
  generalize stp t p m a = b at *
  generalize (t * b + p) / m = q2 at *
  generalize (t * a + p) / m = q1 at *
  exact ⟨q2 - q1, by grind⟩
/-- what is told of a row by a rule is a pair, and the rule's times is among what fits -/
theorem fit_own_some {t p m x : Int} {n : Nat} {H : Hp} {v : V} (h : 2 ≤ n) (F : FitV m (orb (stp t p m) n x) (n - 2) H v) : ∃ (a : Addr) (l s : Int), v = .ref a ∧ H a = some (.tup [.int l, .int s]) ∧ FitR m (orb (stp t p m) n x) (n - 2) (some (l, s)) ∧ 0 < s ∧ 0 ≤ l ∧ l < s ∧ (t - l) % s = 0 ∧ m % s = 0 := by
  have own := fitU_own (t := t) (p := p) (m := m) (n := n) (k := n - 2) (x := x) (by omega)
  rcases F with ⟨_, f⟩ | ⟨a, l, s, rfl, ha, f⟩
  · exact absurd own (f t)
  · exact ⟨a, l, s, rfl, ha, f, f.1, f.2.2.1, f.2.2.2.1, Int.emod_eq_zero_of_dvd ((f.2.2.2.2 t).mp own), Int.emod_eq_zero_of_dvd f.2.1⟩
theorem shp_two (a b c d : Int) : SeqAt.shaped (.tuple [.tuple ([a, b].map PyData.int), .tuple ([c, d].map PyData.int)]) = true := by
  show (PyData.canLayAll0 _ && decide (PyData.depth (.tuple _) ≤ 64)) = true
  simp [PyData.canLayAll0, PyData.canLay0, PyData.depth, PyData.depthAll]
theorem dp_two {K : PySem.W.Frag} {H : Hp} {q a b : Addr} {l1 s1 l2 s2 : Int} (hq : H q = some (.tup [.ref a, .ref b])) (ha : H a = some (.tup [.int l1, .int s1])) (hb : H b = some (.tup [.int l2, .int s2])) : Dp K H (.ref q) (.tuple [.tuple ([l1, s1].map PyData.int), .tuple ([l2, s2].map PyData.int)]) :=
  .tup (SqT.of hq) (.cons (.tup (SqT.of ha) (dp_ints [l1, s1])) (.cons (.tup (SqT.of hb) (dp_ints [l2, s2])) .nil))
theorem stepL_back (a b : V) : stepL [a, b] 1 (-1) 2 = [b, a] := rfl
theorem bk_pl : 2 = Builtin.Slice.slicePlaces (Builtin.Slice.sliceAdjust none none (-1) ((2 : Nat) : Int)).1 (Builtin.Slice.sliceAdjust none none (-1) ((2 : Nat) : Int)).2 (-1) := by decide +kernel
theorem rngW_same {m : Int} {xs : List Int} (h : RngW m m xs) : ∀ i, i < xs.length → 0 ≤ xs.getD i 0 ∧ xs.getD i 0 < m := fun i hi => by
  have := h i hi
  unfold bdw at this
  rw [ite_self] at this
  exact this
theorem lcI_comm (a b : Int) : lcI a b = lcI b a := by
  unfold lcI
  rw [Int.gcd_comm, Int.mul_comm]
theorem mxI_comm (a b : Int) : mxI a b = mxI b a := by
  unfold mxI
  split <;> split <;> omega
theorem mxI_self (a : Int) : mxI a a = a := by
  unfold mxI
  split <;> omega
theorem lcI_self {a : Int} (h : 0 < a) : lcI a a = a := by
  unfold lcI
  rw [Int.gcd_self]
  have e : ((a.natAbs : Nat) : Int) = a := by omega
  rw [e]
  exact Int.mul_ediv_cancel _ (by omega)
theorem lcI_dvd {a b : Int} (h : 0 < a) (k : 0 < b) : lcI a b % a = 0 ∧ lcI a b % b = 0 ∧ lcI a b ≤ a * b := by
  obtain ⟨c, hc⟩ : ((Int.gcd a b : Nat) : Int) ∣ a := Int.gcd_dvd_left ..
  obtain ⟨d, hd⟩ : ((Int.gcd a b : Nat) : Int) ∣ b := Int.gcd_dvd_right ..
  have g0 : 0 < ((Int.gcd a b : Nat) : Int) := by have := gcd_pos2 (a := a) (b := b) h; omega
  have e1 : lcI a b = a * d := by
    unfold lcI
    generalize ((Int.gcd a b : Nat) : Int) = g at *
    rw [hd, show a * (g * d) = g * (a * d) by grind]
    exact Int.mul_ediv_cancel_left _ (by omega)
  have e2 : lcI a b = b * c := by
    unfold lcI
    generalize ((Int.gcd a b : Nat) : Int) = g at *
    rw [hc, show g * c * b = g * (b * c) by grind]
    exact Int.mul_ediv_cancel_left _ (by omega)
  refine ⟨by rw [e1]; exact Int.mul_emod_right _ _, by rw [e2]; exact Int.mul_emod_right _ _, ?_⟩
  unfold lcI
  exact Int.ediv_le_self _ (Int.mul_nonneg (by omega) (by omega))
theorem thr_comm (t1 p1 t2 p2 m : Int) : thr t2 p2 t1 p1 m = thr t1 p1 t2 p2 m := by
  unfold thr
  rw [Int.add_comm]
end Tw


namespace Tw
open PySem PySem.Spec PyProof.Rows L2
def topS (i : Nat) : Stmt := PySem.Challenge.pw_timesrow_k27_whole_two_rows.main.body.getD i (.Pass ⟨0, 0, 0, 0⟩)
abbrev s_deck : Stmt := topS 29
theorem sc_deck : FnScope ["script", "great", "mixed", "cell"] ["script"] (defScope s_deck) := ⟨rfl, rfl, rfl, by decide +kernel, rfl, by decide +kernel, by decide +kernel⟩
abbrev s_draw : Stmt := topS 30
theorem sc_draw : FnScope ["deck", "most", "found", "turn", "one"] ["deck", "most"] (defScope s_draw) := ⟨rfl, rfl, rfl, by decide +kernel, rfl, by decide +kernel, by decide +kernel⟩
abbrev s_below : Stmt := topS 31
theorem sc_below : FnScope ["deck", "most"] ["deck", "most"] (defScope s_below) := ⟨rfl, rfl, rfl, by decide +kernel, rfl, by decide +kernel, by decide +kernel⟩
abbrev s_rule : Stmt := topS 32
theorem sc_rule : FnScope ["deck", "most", "far", "bound", "times", "plus"] ["deck", "most"] (defScope s_rule) := ⟨rfl, rfl, rfl, by decide +kernel, rfl, by decide +kernel, by decide +kernel⟩
section
variable {P : Program} {w : World} {K : PySem.W.Frag} {mg : Str → Option Value} {base : Heap}
theorem ok_deck (D : Top K mg "_law_deck" s_deck ["script"]) (z_len : mg "len" = none) (z_abs : mg "abs" = none) : Has P w K mg base CX0 1 "_law_deck" ["script"] (sp1 (pDeckB K)) := by
  refine D.ok1 sc_deck (fun f cdv A outer s H v1 Q E hr h => ?_)
  obtain ⟨sa, xs, rfl, hS, hl, hb, q⟩ := h
  refine ⟨_, (pss_cons (ps_set (i := 1) sc_deck.nd rfl (.inl rfl) pe_int)
 (pss_cons (ps_set (i := 2) sc_deck.nd rfl (.inl rfl) (pe_op op_add (pe_op op_mulB pe_int (pe_callB (id := "len") call_len_seq (by rfl) z_len (by decide +kernel) (pa_cons (pv 0) pa_nil))) pe_int))
 (pss_cons (ps_for PassesOwn.never rfl (pi_list (pe_slice sl_list (pv 0) po_none (po_some pe_int))) (pg_name (i := 3) sc_deck.nd rfl (.inl rfl)) (pss_one (ps_if (pt_cmpR op_ge (pe_callB (id := "abs") call_abs (by rfl) z_abs (by decide +kernel) (pa_cons (pv 3) pa_nil)) (pe_op op_pow pe_int pe_int) (nomark _)) (pss_one (ps_set (i := 1) sc_deck.nd rfl (.inl rfl) (pe_op op_add (pe_op op_shlN (pv 1) pe_int) (pe_callB (id := "abs") call_abs (by rfl) z_abs (by decide +kernel) (pa_cons (pv 3) pa_nil))))) (pss_one (ps_set (i := 2) sc_deck.nd rfl (.inl rfl) (pe_op op_mod (pe_op op_add (pe_op op_mulB (pv 2) pe_int) (pv 3)) pe_int))))))
 (pss_one (ps_ret (pe_lst (pa_cons (pv 1) (pa_cons (pv 2) (pa_cons pe_int pa_nil))))))))), ?_⟩
  refine ⟨_, rfl, sa, _, rfl, .inl hS, _, _, rfl, rfl, ⟨by unfold Big; omega, by rw [List.length_map]; unfold Big; omega⟩, _, _, rfl, rfl, ?_⟩
  rw [List.length_map]
  refine ⟨_, rfl, _, rfl, sa, _, rfl, hS, fun c nc => ?_⟩
  rw [show (some (63 : Int)) = some ((63 : Nat) : Int) from rfl, cut_takeI]
  have hx : xs.take 63 = xs := List.take_of_length_le hl
  rw [hx]
  have sc := same_new (o := .lst (xs.map V.int)) nc
  refine ⟨c, rfl, ⟨_, SqL.of upd_same⟩, for_list (K := K) (a := c) (xs := xs.map V.int) (fun i σ H' => ∃ (g x : Int) (y : Option V), σ = [some (.ref sa), some (.int g), some (.int x), y] ∧ H' = upd H c (.lst (xs.map V.int)) ∧ 0 ≤ g ∧ Builtin.Int.intBits g ≤ 1048576 + 206 * i ∧ i ≤ xs.length ∧ 0 ≤ x ∧ x < 2000000000) ⟨0, _, none, rfl, rfl, by decide, Nat.zero_le _, Nat.zero_le _, by omega, by omega⟩ ?_ ?_ ?_⟩
  · rintro i σ H' _ ⟨g, x, y, rfl, rfl, _⟩
    exact SqL.of upd_same
  · rintro i v σ H' hi ⟨g, x, y, rfl, rfl, g0, gb, il, x0, x1⟩
    obtain ⟨rfl, li⟩ := vget hi
    have cb := hb (xs.getD i 0) (by rw [get_D (List.getElem?_eq_getElem li)]; exact List.getElem_mem li)
    have z18 : (10 : Int) ^ (18 : Int).toNat = 1000000000000000000 := by decide
    refine ⟨_, rfl, _, rfl, _, _, rfl, rfl, ⟨by decide, by decide, by decide⟩, _, _, rfl, rfl, _, rfl, ifD (fun e => ?_) (fun e => ?_)⟩
    · refine ⟨_, rfl, g, 205, rfl, rfl, ⟨by decide, by have h27 : (2 : Int) ^ 27 = 134217728 := (by decide); rw [h27]; omega⟩, _, rfl, _, rfl, _, _, rfl, rfl, ?_⟩
      refine ⟨_, x, some (.int (xs.getD i 0)), rfl, rfl, ?_, ?_, by omega, x0, x1⟩
      · have h1 := Int.mul_nonneg g0 (show (0 : Int) ≤ 2 ^ 205 from Int.le_of_lt (Int.pow_pos (by decide)))
        have h2 := ab_nonneg (xs.getD i 0)
        show 0 ≤ g * 2 ^ 205 + ab (xs.getD i 0)
        omega
      · have := bits_step (g := g) (c := xs.getD i 0) (n := 1048576 + 206 * i) (k := 205) g0 gb (by omega)
        show Builtin.Int.intBits (g * 2 ^ 205 + ab (xs.getD i 0)) ≤ _
        omega
    · have eb : -1000000000000000000 < xs.getD i 0 ∧ xs.getD i 0 < 1000000000000000000 := by
        rw [z18] at e
        by_cases n : xs.getD i 0 < 0
        · rw [if_pos n] at e; omega
        · rw [if_neg n] at e; omega
      refine ⟨_, rfl, _, _, rfl, rfl, ⟨by unfold Big; omega, by unfold Big; omega⟩, _, rfl, _, _, rfl, rfl, _, _, rfl, rfl, by show (0:Int) < _; decide, ?_⟩
      have mb := mod_bd (x * 43 + xs.getD i 0) (b := 1999999871) (by decide)
      exact ⟨g, _, some (.int (xs.getD i 0)), rfl, rfl, g0, by omega, by omega, mb.1, by omega⟩
  · rintro σ H' ⟨g, x, y, rfl, rfl, g0, gb, il, x0, x1⟩
    refine ⟨_, rfl, _, rfl, by show 3 ≤ sizeLine; decide, fun d nd => ?_⟩
    exact q _ d (sc.trans (same_new nd)) (sc.free nd) ⟨g, x, 0, upd_same, g0, x0, x1, by decide, by decide⟩
theorem ok_draw (D : Top K mg "_law_draw" s_draw ["deck", "most"]) : Has P w K mg base CX0 1 "_law_draw" ["deck", "most"] (sp2 (pDrB 1)) := by
  refine D.ok2 sc_draw (fun f cdv A outer s H v1 v2 Q E hr h => ?_)
  obtain ⟨d, n, m, rfl, rfl, m0, m1, hD, hn, q⟩ := h
  refine ⟨_, (pss_cons (ps_asg (pe_op op_add (pe_ix ix_list (pv 0) pe_int (fun _ _ => rfl)) pe_int) (pg_sub (pv 0) pe_int set_list))
 (pss_cons (ps_if (pt_cmpR op_gt (pe_ix ix_list (pv 0) pe_int (fun _ _ => rfl)) pe_int (nomark _)) (pss_cons (ps_set (i := 2) sc_draw.nd rfl (.inl rfl) (pe_op op_mod (pe_ix ix_list (pv 0) pe_int (fun _ _ => rfl)) (pv 1)))
 (pss_cons (ps_asg (pe_op op_fdivB (pe_ix ix_list (pv 0) pe_int (fun _ _ => rfl)) (pv 1)) (pg_sub (pv 0) pe_int set_list))
 (pss_one (ps_ret (pv 2))))) pss_nil)
 (pss_cons (ps_set (i := 3) sc_draw.nd rfl (.inl rfl) (pe_ix ix_list (pv 0) pe_int (fun _ _ => rfl)))
 (pss_cons (ps_set (i := 4) sc_draw.nd rfl (.inl rfl) (pe_op op_mod (pe_op op_add (pe_op op_add (pe_ix ix_list (pv 0) pe_int (fun _ _ => rfl)) (pe_op op_mulB (pe_op op_mulB pe_int (pv 3)) (pv 3))) (pe_op op_mulB pe_int (pv 3))) pe_int))
 (pss_cons (ps_set (i := 4) sc_draw.nd rfl (.inl rfl) (pe_op op_mod (pe_op op_mulB (pv 4) (pv 4)) pe_int))
 (pss_one (ps_ret (pe_op op_mod (pe_op op_fdivB (pe_op op_mod (pe_op op_add (pe_op op_mulB (pv 4) pe_int) (pe_op op_mulB (pv 3) pe_int)) pe_int) pe_int) (pv 1))))))))), ?_⟩
  have nh := hD.nohd
  obtain ⟨g, x, k, hd, g0, x0, x1, k0, k1⟩ := hD
  refine ⟨_, rfl, d, _, 2, .int k, rfl, rfl, SqL.of hd, rfl, _, _, rfl, rfl, _, rfl, d, _, 2, 2, rfl, rfl, hd, rfl, ?_⟩
  have B1 : But d H (upd H d (.lst [.int g, .int x, .int (k + 1)])) := but_mut (But.refl d H) (fun c' hc => absurd hc (nh c'))
  have nh1 : ∀ c', ¬ At (upd H d (.lst [.int g, .int x, .int (k + 1)])) d c' := fun c' hc => by
    obtain ⟨_, e⟩ := hc
    rw [upd_same] at e
    cases e
  have mx : ∀ (v : Int), 0 ≤ v → v < m → Q (.int v) (upd H d (.lst [.int g, .int x, .int (k + 1)])) := fun v v0 v1 => q _ v B1 ⟨g, x, k + 1, upd_same, g0, x0, x1, by omega, by omega⟩ v0 v1
  refine ⟨_, rfl, d, _, 0, .int g, rfl, rfl, SqL.of upd_same, rfl, _, _, rfl, rfl, _, rfl, ifD (fun e2 => ?_) (fun e2 => ?_)⟩
  · refine ⟨_, rfl, d, _, 0, .int g, rfl, rfl, SqL.of upd_same, rfl, _, rfl, _, _, rfl, rfl, m0, ?_⟩
    refine ⟨_, rfl, d, _, 0, .int g, rfl, rfl, SqL.of upd_same, rfl, _, rfl, _, _, rfl, rfl, ⟨m0, m1⟩, _, rfl, d, _, 0, 0, rfl, rfl, upd_same, rfl, ?_⟩
    have bv := mod_bd g m0
    exact ⟨_, rfl, q _ _ (but_mut B1 (fun c' hc => absurd hc (nh1 c'))) ⟨_, x, k + 1, upd_same, Int.ediv_nonneg g0 (by omega), x0, x1, by omega, by omega⟩ bv.1 bv.2⟩
  · have kk := mul_bd (show 0 ≤ k + 1 by omega) (show k + 1 ≤ 100000001 by omega) (show 0 ≤ k + 1 by omega) (show k + 1 ≤ 100000001 by omega)
    refine ⟨_, rfl, d, _, 2, .int (k + 1), rfl, rfl, SqL.of upd_same, rfl, ?_⟩
    refine ⟨_, rfl, d, _, 1, .int x, rfl, rfl, SqL.of upd_same, rfl, _, rfl, _, _, rfl, rfl, ⟨by unfold Big; omega, by unfold Big; omega⟩, _, rfl, _, _, rfl, rfl, ⟨by unfold Big; omega, by unfold Big; omega⟩, _, _, rfl, rfl, _, rfl, _, _, rfl, rfl, ⟨by unfold Big; omega, by unfold Big; omega⟩, _, _, rfl, rfl, _, _, rfl, rfl, by show (0:Int) < _; decide, ?_⟩
    generalize x + 70003 * (k + 1) * (k + 1) + 5003 * (k + 1) = z1
    have b1 := mod_bd z1 (b := 2147483543) (by decide)
    refine ⟨_, rfl, _, rfl, _, _, rfl, rfl, ⟨by unfold Big; omega, by unfold Big; omega⟩, _, _, rfl, rfl, by show (0:Int) < _; decide, ?_⟩
    generalize z1 % 2147483543 * (z1 % 2147483543) = z2
    have b2 := mod_bd z2 (b := 2147483497) (by decide)
    refine ⟨_, rfl, _, _, rfl, rfl, ⟨by unfold Big; omega, by unfold Big; omega⟩, _, rfl, _, _, rfl, rfl, ⟨by unfold Big; omega, by unfold Big; omega⟩, _, _, rfl, rfl, _, _, rfl, rfl, by show (0:Int) < _; decide, _, _, rfl, rfl, ⟨by decide, by decide⟩, _, rfl, _, _, rfl, rfl, m0, ?_⟩
    have b3 := mod_bd ((z2 % 2147483497 * 38333 + (k + 1) * 67) % 2147483477 / 13) m0
    exact mx _ b3.1 b3.2
theorem ok_below (D : Top K mg "_law_below" s_below ["deck", "most"]) (h_draw : Has P w K mg base CX0 1 "_law_draw" ["deck", "most"] (sp2 (pDrB 1))) : Has P w K mg base CX0 2 "_law_below" ["deck", "most"] (sp2 (pDrB 2)) := by
  refine D.ok2 sc_below (fun f cdv A outer s H v1 v2 Q E hr h => ?_)
  obtain ⟨d, n, m, rfl, rfl, m0, m1, hD, hn, q⟩ := h
  refine ⟨_, (pss_one (ps_ret (pe_op op_mod (pe_op op_add (pe_op op_mulB (pe_own h_draw (hr.mono (by decide)) pass0 (pa_cons (pv 0) (pa_cons (pe_op op_pow pe_int pe_int) pa_nil))) (pe_op op_pow pe_int pe_int)) (pe_own h_draw (hr.mono (by decide)) pass0 (pa_cons (pv 0) (pa_cons (pe_op op_pow pe_int pe_int) pa_nil)))) (pv 1)))), ?_⟩
  have z : (10 : Int) ^ (6 : Int).toNat = 1000000 := by decide
  refine ⟨_, rfl, _, _, rfl, rfl, ⟨by decide, by decide, by decide⟩, _, _, rfl, d, n, _, rfl, rfl, by decide, by decide, hD, by omega, fun H1 v B1 D1 v0 v1 => ?_⟩
  rw [z] at v1
  refine ⟨_, _, rfl, rfl, ⟨by decide, by decide, by decide⟩, _, _, rfl, rfl, ⟨by unfold Big; omega, show Big 1000000 from ⟨by decide, by decide⟩⟩, ?_⟩
  refine ⟨_, rfl, _, _, rfl, rfl, ⟨by decide, by decide, by decide⟩, _, _, rfl, d, n + 1, _, rfl, rfl, by decide, by decide, D1, by omega, fun H2 u B2 D2 u0 u1 => ?_⟩
  refine ⟨_, _, rfl, rfl, _, rfl, _, _, rfl, rfl, m0, ?_⟩
  have bv := mod_bd (v * 10 ^ (6 : Int).toNat + u) m0
  exact q _ _ (B1.trans B2) D2 bv.1 bv.2
theorem ok_rule (D : Top K mg "_law_rule" s_rule ["deck", "most"]) (h_draw : Has P w K mg base CX0 1 "_law_draw" ["deck", "most"] (sp2 (pDrB 1))) (h_below : Has P w K mg base CX0 2 "_law_below" ["deck", "most"] (sp2 (pDrB 2))) (z_max : mg "max" = none) : Has P w K mg base CX0 3 "_law_rule" ["deck", "most"] (sp2 pRuleC) := by
  refine D.ok2 sc_rule (fun f cdv A outer s H v1 v2 Q E hr h => ?_)
  obtain ⟨d, n, m, rfl, rfl, hm, hm2, hD, hn, q⟩ := h
  refine ⟨_, (pss_cons (ps_set (i := 2) sc_rule.nd rfl (.inl rfl) (pe_ix ix_list (pe_lst (pa_cons pe_int (pa_cons pe_int (pa_cons (pv 1) pa_nil)))) (pe_own h_draw (hr.mono (by decide)) pass0 (pa_cons (pv 0) (pa_cons pe_int pa_nil))) (fun _ _ => rfl)))
 (pss_cons (ps_set (i := 3) sc_rule.nd rfl (.inl rfl) (pe_ix ix_list (pe_lst (pa_cons (pe_op op_add pe_int (pe_own h_below (hr.mono (by decide)) pass0 (pa_cons (pv 0) (pa_cons (pv 2) pa_nil)))) (pa_cons (pv 2) (pa_cons (pe_op op_oneShl pe_int (pe_own h_draw (hr.mono (by decide)) pass0 (pa_cons (pv 0) (pa_cons (pe_bits (pv 2)) pa_nil)))) pa_nil)))) (pe_own h_draw (hr.mono (by decide)) pass0 (pa_cons (pv 0) (pa_cons pe_int pa_nil))) (fun _ _ => rfl)))
 (pss_cons (ps_set (i := 4) sc_rule.nd rfl (.inl rfl) (pe_ix ix_list (pe_lst (pa_cons (pe_own h_below (hr.mono (by decide)) pass0 (pa_cons (pv 0) (pa_cons (pv 3) pa_nil))) (pa_cons pe_int (pa_cons (pe_op op_mod pe_int (pv 3)) (pa_cons (pe_op op_sub (pv 3) pe_int) (pa_cons (pe_op op_fdivB (pv 3) pe_int) pa_nil)))))) (pe_callB (id := "max") (call_max2 rfl) (by rfl) z_max (by decide +kernel) (pa_cons pe_int (pa_cons (pe_op op_sub (pe_own h_draw (hr.mono (by decide)) pass0 (pa_cons (pv 0) (pa_cons pe_int pa_nil))) pe_int) pa_nil))) (fun _ _ => rfl)))
 (pss_cons (ps_set (i := 5) sc_rule.nd rfl (.inl rfl) (pe_ix ix_list (pe_lst (pa_cons (pe_own h_below (hr.mono (by decide)) pass0 (pa_cons (pv 0) (pa_cons (pv 3) pa_nil))) (pa_cons pe_int (pa_cons (pe_op op_mod pe_int (pv 3)) (pa_cons (pe_op op_fdivB (pv 3) pe_int) pa_nil))))) (pe_callB (id := "max") (call_max2 rfl) (by rfl) z_max (by decide +kernel) (pa_cons pe_int (pa_cons (pe_op op_sub (pe_own h_draw (hr.mono (by decide)) pass0 (pa_cons (pv 0) (pa_cons pe_int pa_nil))) pe_int) pa_nil))) (fun _ _ => rfl)))
 (pss_one (ps_ret (pe_tup (pa_cons (pv 4) (pa_cons (pv 5) (pa_cons (pv 3) pa_nil)))))))))), ?_⟩
  refine ⟨_, rfl, by show 3 ≤ sizeLine; decide, fun l1 nl1 => ?_⟩
  have s1 := same_new (o := .lst [.int 12, .int 60, .int m]) nl1
  refine ⟨_, rfl, _, _, rfl, d, n, 3, rfl, rfl, by decide, by decide, hD.same s1, by omega, fun H1 u B1 D1 u0 u1 => ?_⟩
  obtain ⟨far, hfar, efar⟩ := at_ints (ns := [12, 60, m]) u0 (by show u < 3; exact u1)
  have bf : 12 ≤ far ∧ far ≤ m := by
    simp at hfar
    omega
  clear hfar
  refine ⟨l1, _, u, _, rfl, rfl, SqL.of (B1 _ _ (hD.ne nl1) upd_same), efar, ?_⟩
  have Ba : But d H H1 := s1.but.trans B1
  refine ⟨_, rfl, _, rfl, _, _, rfl, d, n + 1, far, rfl, rfl, by omega, by omega, D1, by omega, fun H2 v2 B2 D2 v20 v21 => ⟨_, _, rfl, rfl, ?_⟩⟩
  obtain ⟨k, ek, k0, kf⟩ := bits_pow (x := far) (by omega)
  have k1 : k ≤ 40 := ek ▸ bits_le (x := far) (by omega) (by omega)
  refine ⟨_, rfl, _, rfl, _, rfl, far, rfl, _, _, rfl, d, n + 3, _, rfl, rfl, by rw [ek]; omega, by rw [ek]; omega, D2, by omega, fun H3 v3 B3 D3 v30 v31 => ?_⟩
  rw [ek] at v31
  obtain ⟨j, rfl⟩ := Int.eq_ofNat_of_zero_le v30
  have pj : 1 ≤ (2 : Int) ^ j ∧ (2 : Int) ^ j ≤ far := by
    have h1 : (2 : Nat) ^ j ≤ 2 ^ (k - 1) := Nat.pow_le_pow_right (by decide) (by omega)
    have h2 : (1 : Nat) ≤ 2 ^ j := Nat.one_le_two_pow
    have e1 : ((2 ^ j : Nat) : Int) = (2 : Int) ^ j := by norm_cast
    have e2 : ((2 ^ (k - 1) : Nat) : Int) = (2 : Int) ^ (k - 1) := by norm_cast
    omega
  refine ⟨j, rfl, rfl, by omega, by show 3 ≤ sizeLine; decide, fun l2 nl2 => ?_⟩
  have s2 := same_new (o := .lst [.int (1 + v2), .int far, .int (2 ^ j)]) nl2
  refine ⟨_, rfl, _, _, rfl, d, n + 4, 3, rfl, rfl, by decide, by decide, D3.same s2, by omega, fun H4 v4 B4 D4 v40 v41 => ?_⟩
  obtain ⟨b, hb, eb⟩ := at_ints (ns := [1 + v2, far, 2 ^ j]) v40 (by show v4 < 3; exact v41)
  have b0 : 1 ≤ b ∧ b ≤ far := by
    simp at hb
    rcases hb with rfl | rfl | rfl <;> omega
  clear hb
  refine ⟨l2, _, v4, _, rfl, rfl, SqL.of (B4 _ _ (D3.ne nl2) upd_same), eb, ?_⟩
  have Bb : But d H H4 := (((Ba.trans B2).trans B3).trans s2.but).trans B4
  have bp : 0 < b := by omega
  -- times
  refine ⟨_, rfl, _, rfl, _, _, rfl, d, n + 5, b, rfl, rfl, bp, by omega, D4, by omega, fun H5 v5 B5 D5 v50 v51 => ?_⟩
  refine ⟨_, rfl, _, _, rfl, rfl, bp, _, rfl, _, _, rfl, rfl, _, rfl, _, _, rfl, rfl, ⟨by decide, by decide⟩, by show 5 ≤ sizeLine; decide, fun l3 nl3 => ?_⟩
  have s3 := same_new (o := .lst [.int v5, .int 0, .int (1 % b), .int (b - 1), .int (b / 2)]) nl3
  refine ⟨_, rfl, _, _, rfl, d, n + 7, 8, rfl, rfl, by decide, by decide, D5.same s3, by omega, fun H6 v6 B6 D6 v60 v61 => ⟨_, _, rfl, rfl, _, _, rfl, ?_⟩⟩
  have i1 : 0 ≤ (if v6 - 3 > 0 then v6 - 3 else 0) ∧ (if v6 - 3 > 0 then v6 - 3 else 0) < 5 := by split <;> omega
  generalize (if v6 - 3 > 0 then v6 - 3 else 0) = ix at i1
  obtain ⟨t, ht, et⟩ := at_ints (ns := [v5, 0, 1 % b, b - 1, b / 2]) i1.1 (by show ix < 5; exact i1.2)
  have m1 := mod_bd 1 bp
  have t0 : 0 ≤ t ∧ t < b := by
    simp at ht
    rcases ht with rfl | rfl | rfl | rfl | rfl <;> omega
  clear ht
  refine ⟨l3, _, ix, _, rfl, rfl, SqL.of (B6 _ _ (D5.ne nl3) upd_same), et, ?_⟩
  have Bc : But d H H6 := ((Bb.trans B5).trans s3.but).trans B6
  -- plus
  refine ⟨_, rfl, _, rfl, _, _, rfl, d, n + 8, b, rfl, rfl, bp, by omega, D6, by omega, fun H7 v7 B7 D7 v70 v71 => ?_⟩
  refine ⟨_, rfl, _, _, rfl, rfl, bp, _, rfl, _, _, rfl, rfl, ⟨by decide, by decide⟩, by show 4 ≤ sizeLine; decide, fun l4 nl4 => ?_⟩
  have s4 := same_new (o := .lst [.int v7, .int 0, .int (1 % b), .int (b / 3)]) nl4
  refine ⟨_, rfl, _, _, rfl, d, n + 10, 8, rfl, rfl, by decide, by decide, D7.same s4, by omega, fun H8 v8 B8 D8 v80 v81 => ⟨_, _, rfl, rfl, _, _, rfl, ?_⟩⟩
  have i2 : 0 ≤ (if v8 - 4 > 0 then v8 - 4 else 0) ∧ (if v8 - 4 > 0 then v8 - 4 else 0) < 4 := by split <;> omega
  generalize (if v8 - 4 > 0 then v8 - 4 else 0) = iy at i2
  obtain ⟨p, hp, ep⟩ := at_ints (ns := [v7, 0, 1 % b, b / 3]) i2.1 (by show iy < 4; exact i2.2)
  have p0 : 0 ≤ p ∧ p < b := by
    simp at hp
    rcases hp with rfl | rfl | rfl | rfl <;> omega
  clear hp
  refine ⟨l4, _, iy, _, rfl, rfl, SqL.of (B8 _ _ (D7.ne nl4) upd_same), ep, ?_⟩
  have Bd : But d H H8 := ((Bc.trans B7).trans s4.but).trans B8
  refine ⟨_, rfl, _, rfl, _, rfl, by show 3 ≤ sizeLine; decide, fun r nr => ?_⟩
  have s5 := same_new (o := .tup [.int t, .int p, .int b]) nr
  exact q _ r t p b (Bd.trans s5.but) ((D8.same s5).mono (by omega)) (Bd.free (D8.ne nr) nr) upd_same ⟨b0.1, by omega, t0.1, t0.2, p0.1, p0.2⟩ (by omega)
end
end Tw


namespace Tw
open PySem PySem.Spec PyProof.Rows L2
abbrev s_beside : Stmt := topS 33
theorem sc_beside : FnScope ["deck", "rule", "bound", "times"] ["deck", "rule"] (defScope s_beside) := ⟨rfl, rfl, rfl, by decide +kernel, rfl, by decide +kernel, by decide +kernel⟩
section
variable {P : Program} {w : World} {K : PySem.W.Frag} {mg : Str → Option Value} {base : Heap}
theorem ok_beside (D : Top K mg "_law_beside" s_beside ["deck", "rule"]) (h_draw : Has P w K mg base CX0 1 "_law_draw" ["deck", "most"] (sp2 (pDrB 1))) (h_below : Has P w K mg base CX0 2 "_law_below" ["deck", "most"] (sp2 (pDrB 2))) : Has P w K mg base CX0 3 "_law_beside" ["deck", "rule"] (sp2 (pBeside K)) := by
  refine D.ok2 sc_beside (fun f cdv A outer s H v1 v2 Q E hr h => ?_)
  obtain ⟨d, r, n, t, p, m, rfl, rfl, h1, R, hD, hn, q⟩ := h
  refine ⟨_, (pss_cons (ps_set (i := 2) sc_beside.nd rfl (.inl rfl) (pe_ix ix_tup (pv 1) pe_int (fun _ _ => rfl)))
 (pss_cons (ps_set (i := 3) sc_beside.nd rfl (.inl rfl) (pe_ix ix_list (pe_lst (pa_cons (pe_own h_below (hr.mono (by decide)) pass0 (pa_cons (pv 0) (pa_cons (pv 2) pa_nil))) (pa_cons (pe_ix ix_tup (pv 1) pe_int (fun _ _ => rfl)) (pa_cons (pe_op op_mod pe_int (pv 2)) (pa_cons (pe_op op_sub (pv 2) pe_int) pa_nil))))) (pe_own h_draw (hr.mono (by decide)) pass0 (pa_cons (pv 0) (pa_cons pe_int pa_nil))) (fun _ _ => rfl)))
 (pss_one (ps_ret (pe_tup (pa_cons (pv 3) (pa_cons (pe_ix ix_list (pe_lst (pa_cons (pe_own h_below (hr.mono (by decide)) pass0 (pa_cons (pv 0) (pa_cons (pv 2) pa_nil))) (pa_cons (pe_ix ix_tup (pv 1) pe_int (fun _ _ => rfl)) (pa_cons pe_int pa_nil)))) (pe_own h_draw (hr.mono (by decide)) pass0 (pa_cons (pv 0) (pa_cons pe_int pa_nil))) (fun _ _ => rfl)) (pa_cons (pv 2) pa_nil)))))))), ?_⟩
  have m0 := R.pos
  have c1 := R.b2
  have c2 := R.t0
  have c3 := R.t1
  have c4 := R.p0
  have c5 := R.p1
  have m1 := mod_bd 1 m0
  refine ⟨_, rfl, r, _, 2, .int m, rfl, rfl, h1, rfl, ?_⟩
  refine ⟨_, rfl, _, rfl, _, _, rfl, d, n, m, rfl, rfl, m0, by omega, hD, by omega, fun H1 v1 B1 D1 v10 v11 => ?_⟩
  have h11 := B1.tupB hD h1
  refine ⟨_, rfl, r, _, 0, .int t, rfl, rfl, h11, rfl, _, rfl, _, _, rfl, rfl, m0, _, rfl, _, _, rfl, rfl, by show 4 ≤ sizeLine; decide, fun l1 nl1 => ?_⟩
  have s1 := same_new (o := .lst [.int v1, .int t, .int (1 % m), .int (m - 1)]) nl1
  refine ⟨_, rfl, _, _, rfl, d, n + 2, 4, rfl, rfl, by decide, by decide, D1.same s1, by omega, fun H2 v2 B2 D2 v20 v21 => ?_⟩
  obtain ⟨t2, ht2, et2⟩ := at_ints (ns := [v1, t, 1 % m, m - 1]) v20 (by show v2 < 4; exact v21)
  have bt : 0 ≤ t2 ∧ t2 < m := by
    simp at ht2
    rcases ht2 with rfl | rfl | rfl | rfl <;> omega
  clear ht2
  refine ⟨l1, _, v2, _, rfl, rfl, SqL.of (B2 _ _ (D1.ne nl1) upd_same), et2, ?_⟩
  have Ba : But d H H2 := (B1.trans s1.but).trans B2
  have h12 := Ba.tupB hD h1
  refine ⟨_, rfl, _, rfl, _, rfl, _, _, rfl, d, n + 3, m, rfl, rfl, m0, by omega, D2, by omega, fun H3 v3 B3 D3 v30 v31 => ?_⟩
  have h13 := B3.tupB D2 h12
  refine ⟨_, rfl, r, _, 1, .int p, rfl, rfl, h13, rfl, by show 3 ≤ sizeLine; decide, fun l2 nl2 => ?_⟩
  have s2 := same_new (o := .lst [.int v3, .int p, .int 0]) nl2
  refine ⟨_, rfl, _, _, rfl, d, n + 5, 3, rfl, rfl, by decide, by decide, D3.same s2, by omega, fun H4 v4 B4 D4 v40 v41 => ?_⟩
  obtain ⟨p2, hp2, ep2⟩ := at_ints (ns := [v3, p, 0]) v40 (by show v4 < 3; exact v41)
  have bp : 0 ≤ p2 ∧ p2 < m := by
    simp at hp2
    rcases hp2 with rfl | rfl | rfl <;> omega
  clear hp2
  refine ⟨l2, _, v4, _, rfl, rfl, SqL.of (B4 _ _ (D3.ne nl2) upd_same), ep2, _, rfl, by show 3 ≤ sizeLine; decide, fun T nT => ?_⟩
  have Bb : But d H H4 := ((Ba.trans B3).trans s2.but).trans B4
  have sT := same_new (o := .tup [.int t2, .int p2, .int m]) nT
  exact q _ T t2 p2 (Bb.trans sT.but) (D4.same sT) upd_same ⟨R.b1, R.b2, bt.1, bt.2, bp.1, bp.2⟩
end
end Tw


namespace Tw
open PySem PySem.Spec PyProof.Rows L2
abbrev s_init : Stmt := inClass (topS 3) 0
theorem sc_init : FnScope ["self", "number"] ["self", "number"] (defScope s_init) := ⟨rfl, rfl, rfl, by decide +kernel, rfl, by decide +kernel, by decide +kernel⟩
abbrev s_is_whole : Stmt := topS 5
theorem sc_is_whole : FnScope ["thing"] ["thing"] (defScope s_is_whole) := ⟨rfl, rfl, rfl, by decide +kernel, rfl, by decide +kernel, by decide +kernel⟩
abbrev s_is_number : Stmt := topS 6
theorem sc_is_number : FnScope ["thing", "bound"] ["thing", "bound"] (defScope s_is_number) := ⟨rfl, rfl, rfl, by decide +kernel, rfl, by decide +kernel, by decide +kernel⟩
abbrev s_check_number : Stmt := topS 7
theorem sc_check_number : FnScope ["number", "bound"] ["number", "bound"] (defScope s_check_number) := ⟨rfl, rfl, rfl, by decide +kernel, rfl, by decide +kernel, by decide +kernel⟩
section
variable {P : Program} {w : World} {K : PySem.W.Frag} {mg : Str → Option Value} {base : Heap}
theorem ok_init {f CR : Addr} {fd : FuncData} (F : Fun K "__init__" "NoNumber.__init__" s_init f fd) (g_RowError : mg "RowError" = some (.ref CR)) (r_RowError : ClX.CRead K CR (.type "type"))
    (i_RowError : PySem.W.findCls K (.ref CR) (.type "type") "__init__" = some (.val (.builtin "ValueError.__init__"))) : FnOk P w K mg base CX0 1 f fd ["self", "number"] (spInit K) := by
  refine F.ok sc_init (fun vs H Q E h => ?_) (fun cdv A outer s H vs Q E hr h => ?_)
  · obtain ⟨_, _, rfl, _⟩ := h; rfl
  obtain ⟨_, v, rfl, a, C, rfl, T, nf, ha, q⟩ := h
  refine ⟨_, pss_cons (ps_expr (pe_ownInit (by rfl) g_RowError r_RowError i_RowError (pa_cons (pv 0) (pa_cons pe_str pa_nil)))) (pss_one (ps_ost (pv 0) (pv 1))), ?_⟩
  refine ⟨_, rfl, a, C, _, rfl, by show 1 ≤ 1000; decide, T, ha, ?_⟩
  exact ⟨_, rfl, _, rfl, a, C, rfl, T, nf, .inl ⟨ha, fun d nd ne => q d nd ne⟩⟩
theorem ok_is_whole (D : Top K mg "is_whole" s_is_whole ["thing"]) (z_isinstance : mg "isinstance" = none) (z_int : mg "int" = none) (z_bool : mg "bool" = none) : Has P w K mg base CX0 1 "is_whole" ["thing"] (sp1 pWhole) := by
  refine D.ok1 sc_is_whole (fun f cdv A outer s H v1 Q E hr h => ?_)
  obtain ⟨n, rfl, q⟩ := h
  refine ⟨_, (pss_one (ps_ret (pe_and (pe_callB (id := "isinstance") call_isA (by rfl) z_isinstance (by decide +kernel) (pa_cons (pv 0) (pa_cons (pe_bltn (v := .ty "int") (by rfl) z_int (by decide +kernel) rfl) pa_nil))) (pe_one (pe_not (pe_callB (id := "isinstance") call_isA (by rfl) z_isinstance (by decide +kernel) (pa_cons (pv 0) (pa_cons (pe_bltn (v := .ty "bool") (by rfl) z_bool (by decide +kernel) rfl) pa_nil)))))))), ?_⟩
  refine ⟨_, rfl, .inr ⟨_, _, _, _, true, rfl, .ty _, .base (.int n), kit_ty (by decide +kernel), _, rfl, ifT rfl ?_⟩⟩
  exact ⟨_, rfl, .inr ⟨_, _, _, _, false, rfl, .ty _, .base (.int n), kit_ty (by decide +kernel), _, rfl, q⟩⟩
theorem ok_is_number (D : Top K mg "is_number" s_is_number ["thing", "bound"]) (h_is_whole : Has P w K mg base CX0 1 "is_whole" ["thing"] (sp1 pWhole)) : Has P w K mg base CX0 2 "is_number" ["thing", "bound"] (sp2 pIsNum) := by
  refine D.ok2 sc_is_number (fun f cdv A outer s H v1 v2 Q E hr h => ?_)
  obtain ⟨n, m, rfl, rfl, q⟩ := h
  refine ⟨_, (pss_one (ps_ret (pe_and (pe_own h_is_whole (hr.mono (by decide)) pass0 (pa_cons (pv 0) pa_nil)) (pe_one (pe_chain op_le op_lt pe_int (pv 0) (pv 1)))))), ?_⟩
  refine ⟨_, rfl, _, rfl, n, rfl, _, rfl, ifT rfl ?_⟩
  refine ⟨_, rfl, _, _, rfl, rfl, _, rfl, ifD (fun l => ⟨_, rfl, _, _, rfl, rfl, ?_⟩) (fun l => ?_)⟩
  · have e : decide (0 ≤ n ∧ n < m) = decide (n < m) := by
      by_cases h : n < m <;> simp [h, l]
    rw [e] at q
    exact q
  · have e : decide (0 ≤ n ∧ n < m) = false := decide_eq_false fun z => l z.1
    rw [e] at q
    exact q
theorem ok_check_number {CN fI : Addr} {fdI : FuncData} (D : Top K mg "check_number" s_check_number ["number", "bound"]) (h_is_number : Has P w K mg base CX0 2 "is_number" ["thing", "bound"] (sp2 pIsNum)) (oex_NoNumber : OexC K CN)
    (n_NoNumber : PySem.W.findIn K (.ref CN) "__init__" = some (some (.ref fI))) (t_NoNumber : PySem.W.typeIn K (.ref fI) = some (.type "function")) (F_NoNumber : FnOk P w K mg base CX0 1 fI fdI ["self", "number"] (spInit K)) (b_NoNumber : Binds K fdI ["self", "number"] [])
    (g_NoNumber : mg "NoNumber" = some (.ref CN)) (nf : PySem.W.findIn K (.ref CN) "number" = some none) : Has P w K mg base (L2.CX P w) 3 "check_number" ["number", "bound"] (sp2 (pCheck CN)) := by
  refine D.ok2X sc_check_number (fun f cdv A outer s H v1 v2 Q E hr h => ?_)
  obtain ⟨n, m, rfl, rfl, q, e⟩ := h
  refine ⟨_, (pss_one (ps_if (pt_not (pt_val (pe_own h_is_number (hr.mono (by decide)) pass0 (pa_cons (pv 0) (pa_cons (pv 1) pa_nil))))) (pss_one (ps_raise rfl (takes_of rfl rfl rfl rfl) (pmk_oex oex_NoNumber n_NoNumber t_NoNumber F_NoNumber (hr.mono (by decide)) b_NoNumber .nil pass0 (by rfl) g_NoNumber (pa_cons (pv 0) pa_nil)))) pss_nil)), ?_⟩
  have bad : ¬ (0 ≤ n ∧ n < m) → _ := fun hn => e hn
  refine ⟨_, rfl, _, rfl, _, _, rfl, n, m, rfl, rfl, _, rfl, ifN (fun l => ?_) (fun l => q l.1 l.2)⟩
  refine ⟨_, rfl, by show 1 ≤ 1000; decide, fun a na => ⟨_, _, rfl, a, CN, rfl, oex_NoNumber, nf, upd_same, fun d nd ne => ⟨rfl, d, [("number", .int n)], upd_same, ?_, ?_, ?_⟩⟩⟩
  · rw [upd_ne ne, upd_same]
  · rw [upd_ne ne] at nd; exact nd
  · rw [made_eq na ne]
    rw [upd_ne ne] at nd
    exact bad l d nd
end
end Tw


namespace Tw
open PySem PySem.Spec PyProof.Rows L2
abbrev s_common_divisor : Stmt := topS 8
theorem sc_common_divisor : FnScope ["one", "other"] ["one", "other"] (defScope s_common_divisor) := ⟨rfl, rfl, rfl, by decide +kernel, rfl, by decide +kernel, by decide +kernel⟩
section
variable {P : Program} {w : World} {K : PySem.W.Frag} {mg : Str → Option Value} {base : Heap}
theorem ok_common_divisor (D : Top K mg "common_divisor" s_common_divisor ["one", "other"]) : Has P w K mg base CX0 1 "common_divisor" ["one", "other"] (sp2 pGcd) := by
  refine D.ok2 sc_common_divisor (fun f cdv A outer s H v1 v2 Q E hr h => ?_)
  obtain ⟨x, y, rfl, rfl, x0, y0, q⟩ := h
  refine ⟨_, (pss_cons (ps_while PassesOwn.never (pt_cmpR op_ne (pv 1) pe_int (nomark _)) (pss_one (ps_par (i := 0) (j := 1) (by rfl) sc_common_divisor.nd rfl rfl (by decide) rfl rfl (pa_cons (pv 1) (pa_cons (pe_op op_mod (pv 0) (pv 1)) pa_nil)) (by rfl))))
 (pss_one (ps_ret (pv 0)))), ?_⟩
  refine ⟨fun k σ H' => ∃ a b : Int, σ = [some (.int a), some (.int b)] ∧ H' = H ∧ 0 ≤ a ∧ 0 ≤ b ∧ b.toNat = k ∧ Int.gcd a b = Int.gcd x y, ⟨y.toNat, x, y, rfl, rfl, x0, y0, rfl, rfl⟩, ?_⟩
  rintro k σ H' ⟨a, b, rfl, rfl, a0, b0, hk, hg⟩
  refine ⟨_, rfl, rfl, _, rfl, ifNI (fun nb => ?_) (fun nb => ?_)⟩
  · have bp : 0 < b := by omega
    have mr := mod_bd a bp
    refine ⟨fun σ' H1 => ∃ k', k' < k ∧ ∃ a b : Int, σ' = [some (.int a), some (.int b)] ∧ H1 = H' ∧ 0 ≤ a ∧ 0 ≤ b ∧ b.toNat = k' ∧ Int.gcd a b = Int.gcd x y, fun _ _ z => z, ?_⟩
    refine ⟨_, rfl, _, rfl, _, rfl, _, _, rfl, rfl, bp, _, _, rfl, (a % b).toNat, by omega, b, a % b, rfl, rfl, b0, mr.1, rfl, (gcd_step a0 bp).trans hg⟩
  · subst nb
    refine ⟨_, rfl, ?_⟩
    have e : ((Int.gcd x y : Nat) : Int) = a := by
      rw [← hg, Int.gcd_zero_right]
      omega
    rw [e] at q
    exact q
end
end Tw


namespace Tw
open PySem PySem.Spec PyProof.Rows L2
abbrev s_inverse : Stmt := topS 9
theorem sc_inverse : FnScope ["number", "bound", "high", "low", "high_factor", "low_factor", "goes_in"] ["number", "bound"] (defScope s_inverse) := ⟨rfl, rfl, rfl, by decide +kernel, rfl, by decide +kernel, by decide +kernel⟩
section
variable {P : Program} {w : World} {K : PySem.W.Frag} {mg : Str → Option Value} {base : Heap}
theorem ok_inverse (D : Top K mg "inverse" s_inverse ["number", "bound"]) : Has P w K mg base CX0 1 "inverse" ["number", "bound"] (sp2 pInv) := by
  refine D.ok2 sc_inverse (fun f cdv A outer s H v1 v2 Q E hr h => ?_)
  obtain ⟨x, m, rfl, rfl, x0, m0, m1, hg, q⟩ := h
  refine ⟨_, (pss_cons (ps_par (i := 2) (j := 3) (by rfl) sc_inverse.nd rfl rfl (by decide) rfl rfl (pa_cons (pv 1) (pa_cons (pe_op op_mod (pv 0) (pv 1)) pa_nil)) (by rfl))
 (pss_cons (ps_asg (pe_tup (pa_cons pe_int (pa_cons pe_int pa_nil))) (pg_tup rfl (pgs_cons (pg_name (i := 4) sc_inverse.nd rfl (.inl rfl)) (pgs_cons (pg_name (i := 5) sc_inverse.nd rfl (.inl rfl)) pgs_nil))))
 (pss_cons (ps_while PassesOwn.never (pt_cmpR op_ne (pv 3) pe_int (nomark _)) (pss_cons (ps_set (i := 6) sc_inverse.nd rfl (.inl rfl) (pe_op op_fdivB (pv 2) (pv 3)))
 (pss_cons (ps_par (i := 2) (j := 3) (by rfl) sc_inverse.nd rfl rfl (by decide) rfl rfl (pa_cons (pv 3) (pa_cons (pe_op op_sub (pv 2) (pe_op op_mulB (pv 6) (pv 3))) pa_nil)) (by rfl))
 (pss_one (ps_par (i := 4) (j := 5) (by rfl) sc_inverse.nd rfl rfl (by decide) rfl rfl (pa_cons (pv 5) (pa_cons (pe_op op_sub (pv 4) (pe_op op_mulB (pv 6) (pv 5))) pa_nil)) (by rfl))))))
 (pss_one (ps_ret (pe_op op_mod (pv 4) (pv 1))))))), ?_⟩
  have xr := mod_bd x m0
  refine ⟨_, rfl, _, rfl, _, rfl, _, _, rfl, rfl, m0, _, _, rfl, ?_⟩
  refine ⟨by show 2 ≤ sizeLine; decide, fun z nz => ⟨z, _, rfl, SqT.of upd_same, rfl, _, _, rfl, _, _, rfl, rfl, ?_⟩⟩
  refine ⟨fun k σ H' => ∃ (hi lo hf lf A B : Int) (y : Option V), σ = [some (.int x), some (.int m), some (.int hi), some (.int lo), some (.int hf), some (.int lf), y] ∧ H' = upd H z (.tup [.int 0, .int 1]) ∧ 0 ≤ lo ∧ 0 < hi ∧ lo.toNat = k ∧ Int.gcd hi lo = 1 ∧ m ∣ hf * x - hi ∧ m ∣ lf * x - lo ∧
    -A ≤ hf ∧ hf ≤ A ∧ -B ≤ lf ∧ lf ≤ B ∧ 0 ≤ A ∧ 0 ≤ B ∧ A * lo + B * hi = m ∧ hi ≤ m ∧ lo ≤ m, ⟨(x % m).toNat, m, x % m, 0, 1, 0, 1, none, rfl, rfl, xr.1, m0, rfl, ?_, ⟨-1, by omega⟩, ⟨x / m, ?_⟩, by omega, by omega, by omega, by omega, by omega, by omega, by omega, by omega, by omega⟩, ?_⟩
  · rw [gcd_step x0 m0]; exact hg
  · have := Int.mul_ediv_add_emod x m
    omega
  rintro k σ H' ⟨hi, lo, hf, lf, A, B, y, rfl, rfl, l0, h0, hk, gg, d1, d2, a1, a2, b1, b2, A0, B0, hm, him, lm⟩
  refine ⟨_, rfl, rfl, _, rfl, ifNI (fun nb => ?_) (fun nb => ?_)⟩
  · have lp : 0 < lo := by omega
    have mr := mod_bd hi lp
    have dv := Int.mul_ediv_add_emod hi lo
    have q0 : 0 ≤ hi / lo := Int.ediv_nonneg (by omega) l0
    have qh : hi / lo ≤ hi := Int.ediv_le_self _ (by omega)
    obtain ⟨qq, eqq⟩ : ∃ qq, qq = hi / lo := ⟨_, rfl⟩
    rw [← eqq] at dv q0 qh
    have e3 : hi - qq * lo = hi % lo := by rw [Int.mul_comm qq lo]; omega
    have Bm : B ≤ m := by
      have h1 := mul_bd B0 (Int.le_refl B) (show (0:Int) ≤ 1 by decide) (show (1:Int) ≤ hi by omega)
      have h2 := Int.mul_nonneg A0 l0
      have h3 := Int.mul_le_mul_of_nonneg_left (show (1:Int) ≤ hi by omega) B0
      omega
    refine ⟨fun σ' H1 => ∃ k', k' < k ∧ ∃ (hi lo hf lf A B : Int) (y : Option V), σ' = [some (.int x), some (.int m), some (.int hi), some (.int lo), some (.int hf), some (.int lf), y] ∧ H1 = upd H z (.tup [.int 0, .int 1]) ∧ 0 ≤ lo ∧ 0 < hi ∧ lo.toNat = k' ∧ Int.gcd hi lo = 1 ∧ m ∣ hf * x - hi ∧ m ∣ lf * x - lo ∧
      -A ≤ hf ∧ hf ≤ A ∧ -B ≤ lf ∧ lf ≤ B ∧ 0 ≤ A ∧ 0 ≤ B ∧ A * lo + B * hi = m ∧ hi ≤ m ∧ lo ≤ m, fun _ _ z => z, ?_⟩
    have qB := Int.mul_nonneg q0 B0
    have ab1 : -(qq * B) ≤ qq * lf := by have := Int.mul_le_mul_of_nonneg_left b1 q0; rw [Int.mul_neg] at this; exact this
    have ab2 : qq * lf ≤ qq * B := Int.mul_le_mul_of_nonneg_left b2 q0
    have f1 : m ∣ (hf - qq * lf) * x - (hi - qq * lo) := by
      obtain ⟨c1, e1⟩ := d1
      obtain ⟨c2, e2⟩ := d2
      exact ⟨c1 - qq * c2, by grind⟩
    have f2 : B * (hi - qq * lo) + (A + qq * B) * lo = m := by rw [← hm]; grind
    have f3 : Int.gcd lo (hi - qq * lo) = 1 := by rw [e3, gcd_step (by omega) lp]; exact gg
    have g1 : 0 ≤ hi - qq * lo ∧ hi - qq * lo < lo := by omega
    have g2 : -(A + qq * B) ≤ hf - qq * lf ∧ hf - qq * lf ≤ A + qq * B ∧ 0 ≤ A + qq * B := by omega
    have g3 : Big qq ∧ Big lo ∧ Big lf := by unfold Big; omega
    subst eqq
    refine ⟨_, rfl, _, rfl, _, _, rfl, rfl, ⟨lp, by omega⟩, ?_⟩
    refine ⟨_, rfl, _, rfl, _, rfl, _, rfl, _, _, rfl, rfl, ⟨g3.1, g3.2.1⟩, _, _, rfl, rfl, _, _, rfl, ?_⟩
    refine ⟨_, rfl, _, rfl, _, rfl, _, rfl, _, _, rfl, rfl, ⟨g3.1, g3.2.2⟩, _, _, rfl, rfl, _, _, rfl, ?_⟩
    refine ⟨(hi - hi / lo * lo).toNat, by omega, lo, hi - hi / lo * lo, lf, hf - hi / lo * lf, B, A + hi / lo * B, some (.int (hi / lo)), rfl, rfl, g1.1, lp, rfl, f3, d2, f1, b1, b2, g2.1, g2.2.1, B0, g2.2.2, f2, lm, by omega⟩
  · subst nb
    rw [Int.gcd_zero_right] at gg
    have h1 : hi = 1 := by omega
    subst h1
    have vr := mod_bd hf m0
    refine ⟨_, rfl, _, rfl, _, _, rfl, rfl, m0, q _ _ (same_new nz) vr.1 vr.2 ?_⟩
    rw [Int.mul_emod, Int.emod_emod, ← Int.mul_emod]
    obtain ⟨c1, e1⟩ := d1
    rw [show x * hf = 1 + m * c1 by grind, Int.add_mul_emod_self_left]
end
end Tw


namespace Tw
open PySem PySem.Spec PyProof.Rows L2
abbrev s_before : Stmt := topS 13
theorem sc_before : FnScope ["rule", "number", "times", "plus", "bound", "shared", "apart", "least"] ["rule", "number"] (defScope s_before) := ⟨rfl, rfl, rfl, by decide +kernel, rfl, by decide +kernel, by decide +kernel⟩
section
variable {P : Program} {w : World} {K : PySem.W.Frag} {mg : Str → Option Value} {base : Heap}
theorem ok_before {CN : Addr} (D : Top K mg "before" s_before ["rule", "number"]) (h_check_number : Has P w K mg base (L2.CX P w) 3 "check_number" ["number", "bound"] (sp2 (pCheck CN))) (h_common_divisor : Has P w K mg base CX0 1 "common_divisor" ["one", "other"] (sp2 pGcd)) (h_inverse : Has P w K mg base CX0 1 "inverse" ["number", "bound"] (sp2 pInv)) :
    Has P w K mg base (L2.CX P w) 4 "before" ["rule", "number"] (sp2 (pBefore K CN)) := by
  refine D.ok2X sc_before (fun f cdv A outer s H v1 v2 Q E hr h => ?_)
  obtain ⟨r, t, p, m, n, rfl, rfl, h1, R, eN, q0, q1⟩ := h
  refine ⟨_, (pss_cons (ps_asg (pv 0) (pg_tup rfl (pgs_cons (pg_name (i := 2) sc_before.nd rfl (.inl rfl)) (pgs_cons (pg_name (i := 3) sc_before.nd rfl (.inl rfl)) (pgs_cons (pg_name (i := 4) sc_before.nd rfl (.inl rfl)) pgs_nil)))))
 (pss_cons (ps_expr (pe_own h_check_number (hr.mono (by decide)) (passes_call (takes_of rfl rfl rfl rfl) (fun _ _ _ _ z => z)) (pa_cons (pv 1) (pa_cons (pv 4) pa_nil))))
 (pss_cons (ps_set (i := 5) sc_before.nd rfl (.inl rfl) (pe_own h_common_divisor (hr.mono (by decide)) pass0 (pa_cons (pv 2) (pa_cons (pv 4) pa_nil))))
 (pss_cons (ps_if (pt_cmpR op_ne (pe_op op_mod (pe_op op_sub (pv 1) (pv 3)) (pv 5)) pe_int (nomark _)) (pss_one (ps_ret (pe_tup (pa_cons pe_int (pa_cons pe_non pa_nil))))) pss_nil)
 (pss_cons (ps_set (i := 6) sc_before.nd rfl (.inl rfl) (pe_op op_fdivB (pv 4) (pv 5)))
 (pss_cons (ps_set (i := 7) sc_before.nd rfl (.inl rfl) (pe_op op_mod (pe_op op_mulB (pe_op op_fdivB (pe_op op_sub (pv 1) (pv 3)) (pv 5)) (pe_own h_inverse (hr.mono (by decide)) pass0 (pa_cons (pe_op op_fdivB (pv 2) (pv 5)) (pa_cons (pv 6) pa_nil)))) (pv 6)))
 (pss_one (ps_ret (pe_tup (pa_cons (pv 5) (pa_cons (pv 7) pa_nil))))))))))), ?_⟩
  have m0 : 0 < m := by have := R.b1; omega
  have t0 := R.t0
  have t1 := R.t1
  have p0 := R.p0
  have p1 := R.p1
  have b2 := R.b2
  have g0 := gcd_pos (t := t) m0
  obtain ⟨e1, e2, e3, e4⟩ := gcd_parts (t := t) m0
  have gm : (Int.gcd t m : Int) ≤ m := Int.le_of_dvd m0 (Int.gcd_dvd_right ..)
  refine ⟨_, rfl, r, _, rfl, h1, rfl, _, _, rfl, _, _, rfl, _, _, rfl, rfl, ?_⟩
  refine ⟨_, rfl, _, rfl, _, _, rfl, n, m, rfl, rfl, fun a0 a1 => ?_, eN⟩
  refine ⟨_, rfl, _, rfl, _, _, rfl, t, m, rfl, rfl, t0, by omega, ?_⟩
  refine ⟨_, rfl, _, rfl, _, _, rfl, rfl, _, rfl, _, _, rfl, rfl, g0, rfl, _, rfl, ifNI (fun nz => ?_) (fun z => ?_)⟩
  · exact ⟨by show 2 ≤ sizeLine; decide, fun u nu => q0 ⟨a0, a1⟩ nz _ u (same_new nu) nu upd_same⟩
  · have me : m / (Int.gcd t m : Nat) ≤ m := Int.ediv_le_self _ (by omega)
    have cb : -1000000000000 ≤ (n - p) / (Int.gcd t m : Nat) ∧ (n - p) / (Int.gcd t m : Nat) ≤ 1000000000000 := by
      constructor
      · rw [Int.le_ediv_iff_mul_le g0]
        have := mul_bd (show (0:Int) ≤ 1000000000000 by decide) (Int.le_refl _) (show (0:Int) ≤ 1 by decide) (show (1:Int) ≤ (Int.gcd t m : Nat) by omega)
        omega
      · exact Int.le_trans (Int.ediv_le_ediv g0 (show n - p ≤ 1000000000000 by omega)) (Int.ediv_le_self _ (by decide))
    have tp : 0 ≤ t / (Int.gcd t m : Nat) := Int.ediv_nonneg t0 (by omega)
    refine ⟨_, rfl, _, rfl, _, _, rfl, rfl, ⟨g0, by omega⟩, ?_⟩
    refine ⟨_, rfl, _, rfl, _, _, rfl, rfl, _, rfl, _, _, rfl, rfl, ⟨g0, by omega⟩, ?_⟩
    refine ⟨_, rfl, _, rfl, _, _, rfl, rfl, ⟨g0, by omega⟩, _, rfl, _, _, rfl, _, _, rfl, rfl, tp, e3, by omega, e4, fun H1 v s1 v0 v1 hv => ?_⟩
    refine ⟨_, _, rfl, rfl, ⟨by unfold Big; omega, by unfold Big; omega⟩, _, rfl, _, _, rfl, rfl, e3, ?_⟩
    refine ⟨_, rfl, _, rfl, by show 2 ≤ sizeLine; decide, fun u nu => ?_⟩
    exact q1 ⟨a0, a1⟩ z _ u _ (s1.trans (same_new nu)) (s1.free nu) (bef_of m0 a0 a1 z hv) upd_same
end
end Tw


namespace Tw
open PySem PySem.Spec PyProof.Rows L2
abbrev s_gaps_of : Stmt := topS 20
theorem sc_gaps_of : FnScope ["row", "number", "later"] ["row"] (defScope s_gaps_of) := ⟨rfl, rfl, rfl, by decide +kernel, rfl, by decide +kernel, by decide +kernel⟩
section
variable {P : Program} {w : World} {K : PySem.W.Frag} {mg : Str → Option Value} {base : Heap}
theorem ok_gaps_of (D : Top K mg "gaps_of" s_gaps_of ["row"]) (z_zip : mg "zip" = none) : Has P w K mg base CX0 1 "gaps_of" ["row"] (sp1 (pGapsOf K)) := by
  refine D.ok1 sc_gaps_of (fun f cdv A outer s H v1 Q E hr h => ?_)
  obtain ⟨r, xs, rfl, hS, hl, q⟩ := h
  refine ⟨_, (pss_one (ps_ret (pe_lc (own := [("number", 1), ("later", 2)]) (by rfl) sc_gaps_of.nd (pi_x2 (by rfl) z_zip (pa_cons (pv 0) (pa_cons (pe_slice sl_tupX (pv 0) (po_some pe_int) po_none) pa_nil))) (blkOk_by (own := [("number", 1), ("later", 2)]) (N := ["row", "number", "later"]) (sc := defScope s_gaps_of) (by decide +kernel)) (fun _ _ _ _ _ => tup_in (K := K) (n := 2) rfl rfl (pgs_cons (pg_name (i := 1) sc_gaps_of.nd rfl (Or.inl rfl)) (pgs_cons (pg_name (i := 2) sc_gaps_of.nd rfl (Or.inl rfl)) pgs_nil))) (fun _ _ _ _ _ => pts_nil) (fun _ _ _ _ _ => (pe_op op_sub (pv 2) (pv 1)))))), ?_⟩
  refine ⟨_, rfl, _, rfl, _, rfl, r, _, rfl, hS, fun H1 u s1 hu => ?_⟩
  rw [show (some (1 : Int)) = some ((1 : Nat) : Int) from rfl, cut_dropI] at hu
  refine ⟨true, true, r, u, _, _, rfl, s1.tup hS, hu, fun L nL => ?_⟩
  refine lc_it (walk_x2 (K := K) (t1 := true) (t2 := true) (a1 := r) (a2 := u) (l1 := xs.map V.int) (l2 := (xs.drop 1).map V.int) (n := xs.length - 1) (by rw [List.length_map, List.length_map, List.length_drop]; omega)) (fun j H' => ∃ H0, Same H1 H0 ∧ H0 L = none ∧ H' = upd H0 L (.lst (((List.range j).map (gat xs)).map V.int))) ⟨H1, fun _ _ z => z, nL, rfl⟩ ?_ ?_ ?_
  · rintro i H' _ ⟨H0, s0, n0, rfl⟩
    have s2 : Same H1 (upd H0 L (.lst (((List.range i).map (gat xs)).map V.int))) := s0.trans (same_new n0)
    exact ⟨s2.tup (s1.tup hS), s2.tup hu⟩
  · rintro i x H' H'' hi ⟨H0, s0, n0, rfl⟩ ⟨T, x1, x2, rfl, nT, rfl, g1, g2⟩
    obtain ⟨rfl, l1⟩ := vget g1
    obtain ⟨rfl, l2⟩ := vgetd g2
    have neT : L ≠ T := fun z => by rw [← z, upd_same] at nT; cases nT
    have nT0 : H0 T = none := by rw [upd_ne (Ne.symm neT)] at nT; exact nT
    refine ⟨T, _, rfl, SqT.of upd_same, rfl, _, _, rfl, _, _, rfl, rfl, rfl, yesX ?_⟩
    refine ⟨_, rfl, _, rfl, _, _, rfl, rfl, _, by rw [upd_ne neT, upd_same], szl (by rw [List.length_map, List.length_map, List.length_range]; omega), ?_⟩
    refine ⟨upd H0 T (.tup [.int (xs.getD i 0), .int (xs.getD (1 + i) 0)]), s0.trans (same_new nT0), by rw [upd_ne neT]; exact n0, ?_⟩
    rw [upd_swap neT, upd_upd, List.range_succ, List.map_append, List.map_append, show 1 + i = i + 1 by omega]
    rfl
  · rintro H' ⟨H0, s0, n0, rfl⟩
    exact q _ L (s1.trans (s0.trans (same_new n0))) (s1.free nL) upd_same
end
end Tw


namespace Tw
open PySem PySem.Spec PyProof.Rows L2
abbrev s_narrowed : Stmt := topS 21
theorem sc_narrowed : FnScope ["fit", "gap", "later", "bound", "least", "step", "many", "count"] ["fit", "gap", "later", "bound"] (defScope s_narrowed) := ⟨rfl, rfl, rfl, by decide +kernel, rfl, by decide +kernel, by decide +kernel⟩
abbrev s_fits_on_the_way : Stmt := topS 19
theorem sc_fits_on_the_way : FnScope ["row", "bound", "number", "gaps", "fits", "gap", "later"] ["row", "bound"] (defScope s_fits_on_the_way) := ⟨rfl, rfl, rfl, by decide +kernel, rfl, by decide +kernel, by decide +kernel⟩
abbrev s_times_that_fit : Stmt := topS 18
theorem sc_times_that_fit : FnScope ["row", "bound"] ["row", "bound"] (defScope s_times_that_fit) := ⟨rfl, rfl, rfl, by decide +kernel, rfl, by decide +kernel, by decide +kernel⟩
section
variable {P : Program} {w : World} {K : PySem.W.Frag} {mg : Str → Option Value} {base : Heap}
theorem ok_narrowed {CN : Addr} (D : Top K mg "narrowed" s_narrowed ["fit", "gap", "later", "bound"]) (h_before : Has P w K mg base (L2.CX P w) 4 "before" ["rule", "number"] (sp2 (pBefore K CN))) : Has P w K mg base CX0 5 "narrowed" ["fit", "gap", "later", "bound"] (sp4 pNarrow) := by
  refine D.ok4q sc_narrowed (fun f cdv A outer s H v1 v2 v3 v4 Q E hr h => ?_)
  obtain ⟨v, xs, k, m, rfl, rfl, rfl, rfl, hF, m1, m2, rg, q⟩ := h
  refine ⟨_, (pss_cons (ps_if (pt_cmpR op_isN (pv 0) pe_non (nomark _)) (pss_one (ps_ret pe_non)) pss_nil)
 (pss_cons (ps_asg (pv 0) (pg_tup rfl (pgs_cons (pg_name (i := 4) sc_narrowed.nd rfl (.inl rfl)) (pgs_cons (pg_name (i := 5) sc_narrowed.nd rfl (.inl rfl)) pgs_nil))))
 (pss_cons (ps_asg (pe_own h_before (hr.mono (by decide)) passL (pa_cons (pe_tup (pa_cons (pe_op op_mod (pe_op op_mulB (pv 5) (pv 1)) (pv 3)) (pa_cons (pe_op op_mod (pe_op op_mulB (pv 4) (pv 1)) (pv 3)) (pa_cons (pv 3) pa_nil)))) (pa_cons (pe_op op_mod (pv 2) (pv 3)) pa_nil))) (pg_tup rfl (pgs_cons (pg_name (i := 6) sc_narrowed.nd rfl (.inl rfl)) (pgs_cons (pg_name (i := 7) sc_narrowed.nd rfl (.inl rfl)) pgs_nil))))
 (pss_cons (ps_if (pt_cmpR op_eq (pv 6) pe_int (nomark _)) (pss_one (ps_ret pe_non)) pss_nil)
 (pss_one (ps_ret (pe_tup (pa_cons (pe_op op_add (pv 4) (pe_op op_mulB (pv 7) (pv 5))) (pa_cons (pe_op op_mulB (pe_op op_fdivB (pv 3) (pv 6)) (pv 5)) pa_nil))))))))), ?_⟩
  have m0 : 0 < m := by omega
  rcases hF with ⟨rfl, hF⟩ | ⟨a, l, st, rfl, ha, hF⟩
  · refine ⟨_, rfl, rfl, _, rfl, ifT rfl ?_⟩
    exact q H .non (fun _ _ z => z) (.inl ⟨rfl, fitR_none_mono hF (Nat.le_succ k)⟩) (fun q e => by cases e)
  have hF' := hF
  obtain ⟨s0, sd, l0, l1, _⟩ := hF'
  have sm : st ≤ m := Int.le_of_dvd m0 sd
  have g1 := gat_rng m0 rg k
  have g2 := gat_rng m0 rg (k + 1)
  have t1 := mod_bd (st * gat xs k) m0
  have p1 := mod_bd (l * gat xs k) m0
  have n1 := mod_bd (gat xs (k + 1)) m0
  refine ⟨_, rfl, rfl, _, rfl, ifF rfl ?_⟩
  refine ⟨_, rfl, a, _, rfl, SqT.of ha, rfl, _, _, rfl, _, _, rfl, rfl, ?_⟩
  refine ⟨_, rfl, _, rfl, _, _, rfl, rfl, ⟨by unfold Big; omega, by unfold Big; omega⟩, _, rfl, _, _, rfl, rfl, m0, ?_⟩
  refine ⟨_, rfl, _, rfl, _, _, rfl, rfl, ⟨by unfold Big; omega, by unfold Big; omega⟩, _, rfl, _, _, rfl, rfl, m0, _, rfl, by show 3 ≤ sizeLine; decide, fun u nu => ?_⟩
  have su := same_new (o := .tup [.int (st * gat xs k % m), .int (l * gat xs k % m), .int m]) nu
  refine ⟨_, rfl, _, rfl, _, _, rfl, rfl, m0, _, _, rfl, u, st * gat xs k % m, l * gat xs k % m, m, gat xs (k + 1) % m, rfl, rfl, SqT.of upd_same, ⟨m1, m2, t1.1, t1.2, p1.1, p1.2⟩, fun z => absurd n1 z, fun _ hz => ?_, fun _ hz => ?_⟩
  · intro H1 z s1 nz hz1
    refine ⟨z, _, rfl, SqT.of hz1, rfl, _, _, rfl, _, _, rfl, rfl, ?_⟩
    refine ⟨_, rfl, rfl, _, rfl, ifI (fun _ => ?_) (fun e => absurd rfl e)⟩
    exact q H1 .non (su.trans s1) (.inl ⟨rfl, fit_none m0 hF hz⟩) (fun q e => by cases e)
  · intro H1 z x s1 nz hB hz1
    have gp := gcd_pos (t := st * gat xs k % m) m0
    have gm : (Int.gcd (st * gat xs k % m) m : Int) ≤ m := Int.le_of_dvd m0 (Int.gcd_dvd_right ..)
    have B0 := hB.1
    have B1 := hB.2.1
    have dm : m / (Int.gcd (st * gat xs k % m) m : Nat) ≤ m := Int.ediv_le_self _ (by omega)
    have d0 : 0 ≤ m / (Int.gcd (st * gat xs k % m) m : Nat) := Int.ediv_nonneg (by omega) (by omega)
    refine ⟨z, _, rfl, SqT.of hz1, rfl, _, _, rfl, _, _, rfl, rfl, ?_⟩
    refine ⟨_, rfl, rfl, _, rfl, ifI (fun e => by omega) (fun e => ?_)⟩
    refine ⟨_, rfl, _, rfl, _, rfl, _, _, rfl, rfl, ⟨by unfold Big; omega, by unfold Big; omega⟩, _, _, rfl, rfl, ?_⟩
    refine ⟨_, rfl, _, rfl, _, _, rfl, rfl, ⟨gp, by omega⟩, _, rfl, _, _, rfl, rfl, ⟨by unfold Big; omega, by unfold Big; omega⟩, by show 2 ≤ sizeLine; decide, fun y ny => ?_⟩
    have s2 := su.trans s1
    refine q _ (.ref y) (s2.trans (same_new ny)) (.inr ⟨y, _, _, rfl, upd_same, fit_some m0 hF hB⟩) (fun q e => by cases e; exact s2.free ny)
theorem ok_fits_on_the_way {CN : Addr} (D : Top K mg "fits_on_the_way" s_fits_on_the_way ["row", "bound"]) (h_check_number : Has P w K mg base (L2.CX P w) 3 "check_number" ["number", "bound"] (sp2 (pCheck CN))) (h_gaps_of : Has P w K mg base CX0 1 "gaps_of" ["row"] (sp1 (pGapsOf K))) (h_narrowed : Has P w K mg base CX0 5 "narrowed" ["fit", "gap", "later", "bound"] (sp4 pNarrow)) (z_zip : mg "zip" = none) :
    Has P w K mg base (L2.CX P w) 6 "fits_on_the_way" ["row", "bound"] (sp2 (pFits K CN)) := by
  refine D.ok2X sc_fits_on_the_way (fun f cdv A outer s H v1 v2 Q E hr h => ?_)
  obtain ⟨r, xs, m, rfl, rfl, hS, m1, m2, hl, q, eB⟩ := h
  refine ⟨_, (pss_cons (ps_for (passes_of rfl) rfl (pi_tup (pv 0)) (pg_name (i := 2) sc_fits_on_the_way.nd rfl (.inl rfl)) (pss_one (ps_expr (pe_own h_check_number (hr.mono (by decide)) (passes_call (takes_of rfl rfl rfl rfl) (fun _ _ _ _ z => z)) (pa_cons (pv 2) (pa_cons (pv 1) pa_nil))))))
 (pss_cons (ps_set (i := 3) sc_fits_on_the_way.nd rfl (.inl rfl) (pe_own h_gaps_of (hr.mono (by decide)) pass0 (pa_cons (pv 0) pa_nil)))
 (pss_cons (ps_set (i := 4) sc_fits_on_the_way.nd rfl (.inl rfl) (pe_lst (pa_cons (pe_tup (pa_cons pe_int (pa_cons pe_int pa_nil))) pa_nil)))
 (pss_cons (ps_for (passes_of rfl) rfl (pi_x2 (by rfl) z_zip (pa_cons (pv 3) (pa_cons (pe_slice sl_list (pv 3) (po_some pe_int) po_none) pa_nil))) (pg_tup rfl (pgs_cons (pg_name (i := 5) sc_fits_on_the_way.nd rfl (.inl rfl)) (pgs_cons (pg_name (i := 6) sc_fits_on_the_way.nd rfl (.inl rfl)) pgs_nil))) (pss_one (ps_expr (pe_bm PySem.F.plainAttrs_list PySem.F.slot_list_append PySem.F.type_list_append mt_append (pv 4) (pa_cons (pe_own h_narrowed (hr.mono (by decide)) pass0 (pa_cons (pe_ix ix_list (pv 4) (pe_un un_neg pe_int) (fun _ _ => rfl)) (pa_cons (pv 5) (pa_cons (pv 6) (pa_cons (pv 1) pa_nil))))) pa_nil)))))
 (pss_one (ps_ret (pv 4))))))), ?_⟩
  have m0 : 0 < m := by omega
  refine ⟨_, rfl, r, rfl, ⟨_, hS⟩, ?_⟩
  refine for_it (walk_tup (K := K) (a := r) (xs := xs.map V.int)) (fun i σ H' => ∃ (y : Option V), σ = [some (.ref r), some (.int m), y, none, none, none, none] ∧ H' = H ∧ ∀ j, j < i → 0 ≤ xs.getD j 0 ∧ xs.getD j 0 < m) ⟨none, rfl, rfl, fun j hj => absurd hj (Nat.not_lt_zero _)⟩ ?_ ?_ ?_
  · rintro i σ H' _ ⟨y, rfl, rfl, _⟩
    exact hS
  · rintro i x σ H' H'' hi ⟨y, rfl, rfl, ih⟩ ⟨rfl, hx⟩
    obtain ⟨rfl, li⟩ := vget hx
    refine ⟨_, rfl, _, rfl, _, _, rfl, xs.getD i 0, m, rfl, rfl, fun a0 a1 => ?_, fun nb => eB i ⟨li, nb, ih⟩⟩
    refine ⟨_, rfl, rfl, fun j hj => ?_⟩
    by_cases e : j = i
    · rw [e]; exact ⟨a0, a1⟩
    · exact ih j (by omega)
  rintro σ H' ⟨y, rfl, rfl, ih⟩
  rw [List.length_map] at ih
  have rg : Rng m xs := by
    rcases rng_or_bad m xs with h | ⟨i, h⟩
    · exact h
    · exact absurd (ih i h.1) h.2.1
  refine ⟨_, rfl, _, rfl, r, xs, rfl, hS, hl, fun H1 l s1 nl h1 => ?_⟩
  refine ⟨by show 2 ≤ sizeLine; decide, fun p np => ?_⟩
  have s2 := same_new (o := .tup [.int 0, .int 1]) np
  refine ⟨by show 1 ≤ sizeLine; decide, fun fi nfi => ?_⟩
  have s3 := same_new (o := .lst [.ref p]) nfi
  refine ⟨_, rfl, _, rfl, _, rfl, l, _, rfl, SqL.of (s3 _ _ (s2 _ _ h1)), fun l2 nl2 => ?_⟩
  rw [show (some (1 : Int)) = some ((1 : Nat) : Int) from rfl, cut_dropI]
  have s4 := same_new (o := .lst (((gp xs).drop 1).map V.int)) nl2
  have hp4 : (upd (upd (upd H1 p (.tup [.int 0, .int 1])) fi (.lst [.ref p])) l2 (.lst (((gp xs).drop 1).map V.int))) p = some (.tup [.int 0, .int 1]) := s4 _ _ (s3 _ _ upd_same)
  have hf4 : (upd (upd (upd H1 p (.tup [.int 0, .int 1])) fi (.lst [.ref p])) l2 (.lst (((gp xs).drop 1).map V.int))) fi = some (.lst [.ref p]) := s4 _ _ upd_same
  have hl4 := s4 _ _ (s3 _ _ (s2 _ _ h1))
  have hm4 : (upd (upd (upd H1 p (.tup [.int 0, .int 1])) fi (.lst [.ref p])) l2 (.lst (((gp xs).drop 1).map V.int))) l2 = some (.lst (((gp xs).drop 1).map V.int)) := upd_same
  have sA : Same H1 (upd (upd (upd H1 p (.tup [.int 0, .int 1])) fi (.lst [.ref p])) l2 (.lst (((gp xs).drop 1).map V.int))) := s2.trans (s3.trans s4)
  have nfi1 : H1 fi = none := s2.free nfi
  have nfil2' : fi ≠ l2 := ne_of_none (upd_same (H := upd H1 p (.tup [.int 0, .int 1])) (a := fi) (o := .lst [.ref p])) nl2
  generalize upd (upd (upd H1 p (.tup [.int 0, .int 1])) fi (.lst [.ref p])) l2 (.lst (((gp xs).drop 1).map V.int)) = H4 at hp4 hf4 hl4 hm4 sA
  have gl := gp_len xs
  have nfil : l ≠ fi := ne_of_none h1 nfi1
  have nfil2 : l2 ≠ fi := Ne.symm nfil2'
  refine ⟨false, false, l, l2, _, _, rfl, SqL.of hl4, SqL.of hm4, ?_⟩
  refine for_it (walk_x2 (K := K) (t1 := false) (t2 := false) (a1 := l) (a2 := l2) (l1 := (gp xs).map V.int) (l2 := ((gp xs).drop 1).map V.int) (n := xs.length - 2) (by simp only [List.length_map, List.length_drop, gl]; omega))
    (fun i σ H' => ∃ (y1 y2 : Option V) (vs : List V), σ = [some (.ref r), some (.int m), y, some (.ref l), some (.ref fi), y1, y2] ∧ (∀ b o, b ≠ fi → H4 b = some o → H' b = some o) ∧ H' fi = some (.lst vs) ∧ vs.length = i + 1 ∧ i ≤ xs.length - 2 ∧ FitsV m xs H' vs ∧ ∀ z, .ref z ∈ vs → H1 z = none) ?_ ?_ ?_ ?_
  · refine ⟨none, none, [.ref p], rfl, fun _ _ _ z => z, hf4, rfl, by omega, fun j v hv => ?_, fun z hz => ?_⟩
    · cases j with
      | zero =>
        cases hv
        exact .inr ⟨p, 0, 1, rfl, hp4, fitR_zero m0 xs⟩
      | succ j => cases hv
    · cases (List.mem_singleton.mp hz)
      exact np
  · rintro i σ H' _ ⟨y1, y2, vs, rfl, sm, hfi, _⟩
    exact ⟨SqL.of (sm _ _ nfil hl4), SqL.of (sm _ _ nfil2 hm4)⟩
  · rintro i x σ H' H'' hi ⟨y1, y2, vs, rfl, sm, hfi, lv, _, fv, nv⟩ ⟨T, x1, x2, rfl, nT, rfl, k1, k2⟩
    obtain ⟨rfl, b1⟩ := vget k1
    obtain ⟨rfl, b2⟩ := vgetd k2
    rw [gp_D (by omega), gp_D (by omega)]
    have sT := same_new (o := .tup [.int (gat xs i), .int (gat xs (1 + i))]) nT
    obtain ⟨vt, vl, rfl⟩ : ∃ vt vl, vs = vt ++ [vl] := by
      have : vs ≠ [] := fun z => by rw [z] at lv; exact absurd lv (by simp)
      exact ⟨vs.dropLast, vs.getLast this, (List.dropLast_concat_getLast this).symm⟩
    have lvt : vt.length = i := by rw [List.length_append] at lv; simp at lv; exact lv
    have fvl : FitV m xs i H' vl := fv i vl (by rw [List.getElem?_append_right (by omega), lvt, Nat.sub_self]; rfl)
    have hfiT := sT _ _ hfi
    refine ⟨T, _, rfl, SqT.of upd_same, rfl, _, _, rfl, _, _, rfl, rfl, ?_⟩
    refine ⟨_, rfl, .inl ⟨rfl, _, SqL.of hfiT⟩, _, rfl, _, rfl, fi, _, -1, _, rfl, rfl, SqL.of hfiT, atI_last _ _, _, rfl, _, rfl, _, rfl, _, _, _, _, rfl, vl, xs, i, m, rfl, rfl, by rw [show i + 1 = 1 + i by omega], rfl, fvl.same sT, m1, m2, rg, fun H2 v' s5 fv' nv' => ?_⟩
    have hfi2 := s5 _ _ hfiT
    refine ⟨fi, _, v', rfl, rfl, hfi2, szl (by rw [lv]; omega), ?_⟩
    have nfr : ∀ q, v' = .ref q → q ≠ fi := fun q e z => by
      have := nv' q e
      rw [z, hfiT] at this
      cases this
    refine ⟨_, _, vt ++ [vl] ++ [v'], rfl, fun b o nb hb => ?_, upd_same, ?_, by omega, fun j v hv => ?_, fun z hz => ?_⟩
    · rw [upd_ne nb]
      exact s5 _ _ (sT _ _ (sm _ _ nb hb))
    · rw [List.length_append, lv]
      rfl
    · have keep : ∀ v j, FitV m xs j H2 v → (∀ q, v = .ref q → q ≠ fi) → FitV m xs j (upd H2 fi (.lst (vt ++ [vl] ++ [v']))) v := fun v j h hn => by
        rcases h with h | ⟨q, l0, st, e, hq, rr⟩
        · exact .inl h
        · exact .inr ⟨q, l0, st, e, by rw [upd_ne (hn q e)]; exact hq, rr⟩
      by_cases e : j < (vt ++ [vl]).length
      · rw [List.getElem?_append_left e] at hv
        refine keep v j ((fv j v hv).same (sT.trans s5)) (fun q eq z => ?_)
        have h1 := nv q (by rw [← eq]; exact List.mem_of_getElem? hv)
        rw [z, nfi1] at h1
        subst z
        rcases fv j v hv with ⟨e1, _⟩ | ⟨q', _, _, e1, hq', _⟩
        · rw [eq] at e1; cases e1
        · rw [eq] at e1
          cases e1
          rw [hfi] at hq'
          cases hq'
      · have ej : j = i + 1 := by
          have := (List.getElem?_eq_some_iff.mp hv).1
          rw [List.length_append, lv] at this
          simp at this
          omega
        subst ej
        rw [List.getElem?_append_right (by omega), lv, Nat.sub_self] at hv
        cases hv
        exact keep v' (i + 1) fv' nfr
    · rcases List.mem_append.mp hz with hz | hz
      · exact nv z hz
      · have ez := List.mem_singleton.mp hz
        have h2 := nv' z ez.symm
        have h3 : H' z = none := sT.free h2
        cases e4 : H1 z with
        | none => rfl
        | some o =>
          have nz : z ≠ fi := nfr z ez.symm
          have := sm z o nz (sA _ _ e4)
          rw [h3] at this
          cases this
  · rintro σ H' ⟨y1, y2, vs, rfl, sm, hfi, lv, _, fv, nv⟩
    have sf : Same H1 H' := fun b o hb => sm b o (ne_of_none hb nfi1) (sA _ _ hb)
    exact ⟨_, rfl, q rg _ fi vs (s1.trans sf) (s1.free nfi1) hfi lv fv (fun z hz => s1.free (nv z hz))⟩
theorem ok_times_that_fit {CN : Addr} (D : Top K mg "times_that_fit" s_times_that_fit ["row", "bound"]) (h_fits_on_the_way : Has P w K mg base (L2.CX P w) 6 "fits_on_the_way" ["row", "bound"] (sp2 (pFits K CN))) :
    Has P w K mg base (L2.CX P w) 7 "times_that_fit" ["row", "bound"] (sp2 (pTimes K CN)) := by
  refine D.ok2X sc_times_that_fit (fun f cdv A outer s H v1 v2 Q E hr h => ?_)
  obtain ⟨r, xs, m, rfl, rfl, hS, m1, m2, hl, q, eB⟩ := h
  refine ⟨_, (pss_one (ps_ret (pe_ix ix_list (pe_own h_fits_on_the_way (hr.mono (by decide)) (passes_call (takes_of rfl rfl rfl rfl) (fun _ _ _ _ z => z)) (pa_cons (pv 0) (pa_cons (pv 1) pa_nil))) (pe_un un_neg pe_int) (fun _ _ => rfl)))), ?_⟩
  refine ⟨_, rfl, _, rfl, _, _, rfl, r, xs, m, rfl, rfl, hS, m1, m2, hl, fun rg H1 l vs s1 nl h1 lv fv nv => ?_, eB⟩
  obtain ⟨vt, vl, rfl⟩ : ∃ vt vl, vs = vt ++ [vl] := by
    have : vs ≠ [] := fun z => by rw [z] at lv; exact absurd lv (by simp)
    exact ⟨vs.dropLast, vs.getLast this, (List.dropLast_concat_getLast this).symm⟩
  have lvt : vt.length = xs.length - 2 := by rw [List.length_append] at lv; simp at lv; exact lv
  refine ⟨_, rfl, l, _, -1, _, rfl, rfl, SqL.of h1, atI_last _ _, ?_⟩
  exact q rg _ vl s1 (fv _ vl (by rw [List.getElem?_append_right (by omega), lvt, Nat.sub_self]; rfl)) (fun z e => nv z (by rw [e]; simp))
end
end Tw


namespace Tw
open PySem PySem.Spec PyProof.Rows L2
abbrev s_next_of : Stmt := topS 11
theorem sc_next_of : FnScope ["rule", "number", "times", "plus", "bound"] ["rule", "number"] (defScope s_next_of) := ⟨rfl, rfl, rfl, by decide +kernel, rfl, by decide +kernel, by decide +kernel⟩
section
variable {P : Program} {w : World} {K : PySem.W.Frag} {mg : Str → Option Value} {base : Heap}
theorem ok_next_of {CN : Addr} (D : Top K mg "next_of" s_next_of ["rule", "number"]) (h_check_number : Has P w K mg base (L2.CX P w) 3 "check_number" ["number", "bound"] (sp2 (pCheck CN))) :
    Has P w K mg base (L2.CX P w) 4 "next_of" ["rule", "number"] (sp2 (pNextOf K CN)) := by
  refine D.ok2X sc_next_of (fun f cdv A outer s H v1 v2 Q E hr h => ?_)
  obtain ⟨r, t, p, m, n, rfl, rfl, hr1, R, q, e⟩ := h
  refine ⟨_, (pss_cons (ps_asg (pv 0) (pg_tup rfl (pgs_cons (pg_name (i := 2) sc_next_of.nd rfl (.inl rfl)) (pgs_cons (pg_name (i := 3) sc_next_of.nd rfl (.inl rfl)) (pgs_cons (pg_name (i := 4) sc_next_of.nd rfl (.inl rfl)) pgs_nil)))))
 (pss_cons (ps_expr (pe_own h_check_number (hr.mono (by decide)) (passes_call (takes_of rfl rfl rfl rfl) (fun _ _ _ _ z => z)) (pa_cons (pv 1) (pa_cons (pv 4) pa_nil))))
 (pss_one (ps_ret (pe_op op_mod (pe_op op_add (pe_op op_mulB (pv 2) (pv 1)) (pv 3)) (pv 4)))))), ?_⟩
  refine ⟨_, rfl, r, _, rfl, hr1, rfl, _, _, rfl, _, _, rfl, _, _, rfl, rfl, ?_⟩
  refine ⟨_, rfl, _, rfl, _, _, rfl, n, m, rfl, rfl, fun n0 n1 => ?_, e⟩
  have := R.b2
  have := R.t0
  have := R.t1
  have := R.b1
  exact ⟨_, rfl, _, rfl, _, _, rfl, rfl, ⟨by unfold Big; omega, by unfold Big; omega⟩, _, rfl, _, _, rfl, rfl, _, rfl, _, _, rfl, rfl, (show (0 : Int) < m by omega), q n0 n1⟩
end
end Tw


namespace Tw
open PySem PySem.Spec PyProof.Rows L2
abbrev s_row_from : Stmt := topS 12
theorem sc_row_from : FnScope ["rule", "start", "many", "row", "number", "place"] ["rule", "start", "many"] (defScope s_row_from) := ⟨rfl, rfl, rfl, by decide +kernel, rfl, by decide +kernel, by decide +kernel⟩
section
variable {P : Program} {w : World} {K : PySem.W.Frag} {mg : Str → Option Value} {base : Heap}
theorem ok_row_from {CN : Addr} (D : Top K mg "row_from" s_row_from ["rule", "start", "many"]) (h_check_number : Has P w K mg base (L2.CX P w) 3 "check_number" ["number", "bound"] (sp2 (pCheck CN))) (h_next_of : Has P w K mg base (L2.CX P w) 4 "next_of" ["rule", "number"] (sp2 (pNextOf K CN)))
    (z_range : mg "range" = none) (z_tuple : mg "tuple" = none) : Has P w K mg base (L2.CX P w) 5 "row_from" ["rule", "start", "many"] (sp3 (pRowFrom K CN)) := by
  refine D.ok3X sc_row_from (fun f cdv A outer s H v1 v2 v3 Q E hr h => ?_)
  obtain ⟨r, t, p, m, s0, n, rfl, rfl, rfl, hr1, R, n0, n1, q, e⟩ := h
  refine ⟨_, (pss_cons (ps_expr (pe_own h_check_number (hr.mono (by decide)) (passes_call (takes_of rfl rfl rfl rfl) (fun _ _ _ _ z => z)) (pa_cons (pv 1) (pa_cons (pe_ix ix_tup (pv 0) pe_int (fun _ _ => rfl)) pa_nil))))
 (pss_cons (ps_set (i := 3) sc_row_from.nd rfl (.inl rfl) (pe_lst pa_nil))
 (pss_cons (ps_set (i := 4) sc_row_from.nd rfl (.inl rfl) (pv 1))
 (pss_cons (ps_for (passes_of rfl) rfl (pi_range1 (by rfl) z_range (pa_cons (pv 2) pa_nil)) (pg_name (i := 5) sc_row_from.nd rfl (.inl rfl)) (pss_cons (ps_expr (pe_bm PySem.F.plainAttrs_list PySem.F.slot_list_append PySem.F.type_list_append mt_append (pv 3) (pa_cons (pv 4) pa_nil)))
 (pss_one (ps_set (i := 4) sc_row_from.nd rfl (.inl rfl) (pe_own h_next_of (hr.mono (by decide)) (passes_call (takes_of rfl rfl rfl rfl) (fun _ _ _ _ z => z)) (pa_cons (pv 0) (pa_cons (pv 4) pa_nil)))))))
 (pss_one (ps_ret (pe_callTy call_tuple_of (by rfl) z_tuple (by decide +kernel) (pa_cons (pv 3) pa_nil)))))))), ?_⟩
  have m0 : 0 < m := by have := R.b1; omega
  refine ⟨_, rfl, _, rfl, r, _, 2, .int m, rfl, rfl, hr1, rfl, _, _, rfl, s0, m, rfl, rfl, fun a0 a1 => ?_, e⟩
  refine ⟨by show 0 ≤ sizeLine; decide, fun l nl => ?_⟩
  have s1 := same_new (o := .lst []) nl
  refine ⟨_, rfl, _, rfl, n, rfl, by omega, by omega, for_range (lo := 0) (n := n.toNat) (fun i σ H' => ∃ (y : Option V), σ = [some (.ref r), some (.int s0), some (.int n), some (.ref l), some (.int (itr (stp t p m) i s0)), y] ∧ H' = upd H l (.lst ((orb (stp t p m) i s0).map V.int))) ⟨none, rfl, rfl⟩ ?_ ?_⟩
  · rintro i σ H' hi ⟨y, rfl, rfl⟩
    have ir := itr_rng (t := t) (p := p) m0 ⟨a0, a1⟩ i
    refine ⟨_, rfl, .inl ⟨rfl, _, SqL.of upd_same⟩, _, rfl, l, _, _, rfl, rfl, upd_same, szl (by rw [List.length_map, orb_len]; omega), ?_⟩
    rw [upd_upd, show (orb (stp t p m) i s0).map V.int ++ [.int (itr (stp t p m) i s0)] = (orb (stp t p m) (i + 1) s0).map V.int by rw [orb_succ, List.map_append]; rfl]
    have s2 : Same H (upd H l (.lst ((orb (stp t p m) (i + 1) s0).map V.int))) := same_new nl
    refine ⟨_, rfl, _, rfl, _, _, rfl, r, t, p, m, _, rfl, rfl, s2.tup hr1, R, fun _ _ => ?_, fun z => absurd ir z⟩
    exact ⟨some (.int (0 + i)), rfl, rfl⟩
  · rintro σ H' ⟨y, rfl, rfl⟩
    have s2 : Same H (upd H l (.lst ((orb (stp t p m) n.toNat s0).map V.int))) := same_new nl
    refine ⟨_, rfl, l, _, rfl, .inl ⟨SqL.of upd_same, fun u nu => ?_⟩⟩
    exact q a0 a1 _ u (s2.trans (same_new nu)) (s2.free nu) upd_same
end
end Tw


namespace Tw
open PySem PySem.Spec PyProof.Rows L2
abbrev s_woven : Stmt := topS 23
theorem sc_woven : FnScope ["one", "start", "other", "begin", "many", "turns", "first", "second", "row", "pair", "number"] ["one", "start", "other", "begin", "many"] (defScope s_woven) := ⟨rfl, rfl, rfl, by decide +kernel, rfl, by decide +kernel, by decide +kernel⟩
section
variable {P : Program} {w : World} {K : PySem.W.Frag} {mg : Str → Option Value} {base : Heap}
theorem ok_woven {CN : Addr} (D : Top K mg "woven" s_woven ["one", "start", "other", "begin", "many"]) (h_row_from : Has P w K mg base (L2.CX P w) 5 "row_from" ["rule", "start", "many"] (sp3 (pRowFrom K CN))) (z_zip : mg "zip" = none) (z_tuple : mg "tuple" = none) :
    Has P w K mg base (L2.CX P w) 6 "woven" ["one", "start", "other", "begin", "many"] (sp5 (pWoven K CN)) := by
  refine D.ok5X sc_woven (fun f cdv A outer s H v1 v2 v3 v4 v5 Q E hr h => ?_)
  obtain ⟨r1, r2, t1, p1, m1, x, t2, p2, m2, y, n, rfl, rfl, rfl, rfl, rfl, hr1, R1, hr2, R2, n0, n1, q, e1, e2⟩ := h
  refine ⟨_, (pss_cons (ps_set (i := 5) sc_woven.nd rfl (.inl rfl) (pe_op op_fdivB (pe_op op_add (pv 4) pe_int) pe_int))
 (pss_cons (ps_set (i := 6) sc_woven.nd rfl (.inl rfl) (pe_own h_row_from (hr.mono (by decide)) (passes_call (takes_of rfl rfl rfl rfl) (fun _ _ _ _ z => z)) (pa_cons (pv 0) (pa_cons (pv 1) (pa_cons (pv 5) pa_nil)))))
 (pss_cons (ps_set (i := 7) sc_woven.nd rfl (.inl rfl) (pe_own h_row_from (hr.mono (by decide)) (passes_call (takes_of rfl rfl rfl rfl) (fun _ _ _ _ z => z)) (pa_cons (pv 2) (pa_cons (pv 3) (pa_cons (pv 5) pa_nil)))))
 (pss_cons (ps_setLc2 (i := 8) (own := [("pair", 9), ("number", 10)]) [10] (by rfl) sc_woven.nd rfl rfl (sw_true rfl rfl rfl (by decide +kernel)) (pi_x2n (by rfl) z_zip (pa_cons (pv 6) (pa_cons (pv 7) pa_nil))) (blkOk_by (own := [("pair", 9), ("number", 10)]) (N := ["one", "start", "other", "begin", "many", "turns", "first", "second", "row", "pair", "number"]) (sc := defScope s_woven) (by decide +kernel)) (by decide) (fun _ _ _ _ _ => (pg_name (i := 9) sc_woven.nd rfl (Or.inl rfl))) (fun _ _ _ _ _ => pts_nil) (fun _ _ _ _ _ => (pi_tupK (K := K) (by rfl) (pv 9))) (fun _ _ _ _ _ => (by intro _; rfl)) (fun _ _ _ _ _ => (pg_name (i := 10) sc_woven.nd rfl (Or.inl rfl))) (fun _ _ _ _ _ => pts_nil) (fun _ _ _ _ _ => (pv 10)))
 (pss_one (ps_ret (pe_callTy call_tuple_of (by rfl) z_tuple (by decide +kernel) (pa_cons (pe_slice sl_list (pv 8) po_none (po_some (pv 4))) pa_nil)))))))), ?_⟩
  refine ⟨_, rfl, _, _, rfl, rfl, _, _, rfl, rfl, ⟨by decide, by decide⟩, ?_⟩
  obtain ⟨k, hk⟩ : ∃ k : Nat, (n + 1) / 2 = (k : Int) := ⟨((n + 1) / 2).toNat, by omega⟩
  refine ⟨_, rfl, _, rfl, _, rfl, _, _, _, rfl, r1, t1, p1, m1, x, (n + 1) / 2, rfl, rfl, rfl, hr1, R1, by omega, by omega, fun a0 a1 H1 u s1 nu hu => ?_, e1⟩
  refine ⟨_, rfl, _, rfl, _, rfl, _, _, _, rfl, r2, t2, p2, m2, y, (n + 1) / 2, rfl, rfl, rfl, s1.tup hr2, R2, by omega, by omega, fun b0 b1 H2 v s2 nv hv => ?_, fun nb => e2 ⟨a0, a1⟩ nb H1 s1⟩
  have hu2 := s2 _ _ hu
  rw [hk, Int.toNat_natCast] at hu2 hv
  refine ⟨_, rfl, _, rfl, true, true, u, v, _, _, rfl, SqT.of hu2, SqT.of hv, fun L nL => ?_⟩
  generalize hf : stp t1 p1 m1 = f at *
  generalize hg : stp t2 p2 m2 = g at *
  refine walkQ_it (walk_x2 (K := K) (t1 := true) (t2 := true) (a1 := u) (a2 := v) (l1 := (orb f k x).map V.int) (l2 := (orb g k y).map V.int) (n := k) (by rw [List.length_map, List.length_map, orb_len, orb_len]; omega)) (fun i H' => ∃ H0, Same H2 H0 ∧ H0 L = none ∧ H' = upd H0 L (.lst ((wv f g x y (2 * i)).map V.int)) ∧ i ≤ k) ⟨H2, fun _ _ z => z, nL, rfl, by omega⟩ ?_ ?_ ?_
  · rintro i H' _ ⟨H0, s0, n0', rfl, _⟩
    have s3 : Same H2 (upd H0 L (.lst ((wv f g x y (2 * i)).map V.int))) := s0.trans (same_new n0')
    exact ⟨SqT.of (s3 _ _ hu2), SqT.of (s3 _ _ hv)⟩
  · rintro i z H3 H3' hi ⟨H0, s0, n0', rfl, _⟩ ⟨T, x1, x2, rfl, nT, rfl, g1, g2⟩
    rw [List.getElem?_map, orb_gt _ _ hi] at g1 g2
    cases g1
    cases g2
    have neT : L ≠ T := fun z => by rw [← z, upd_same] at nT; cases nT
    have nT0 : H0 T = none := by rw [upd_ne (Ne.symm neT)] at nT; exact nT
    refine ⟨rfl, yesX ?_⟩
    refine ⟨_, rfl, T, rfl, ⟨_, SqT.of upd_same⟩, ?_⟩
    rw [upd_swap neT]
    have sT := same_new (o := .tup [.int (itr f i x), .int (itr g i y)]) nT0
    have hT : (upd H0 T (.tup [.int (itr f i x), .int (itr g i y)])) T = some (.tup ([itr f i x, itr g i y].map V.int)) := upd_same
    have nL1 : (upd H0 T (.tup [.int (itr f i x), .int (itr g i y)])) L = none := by rw [upd_ne neT]; exact n0'
    have s01 := s0.trans sT
    generalize upd H0 T (.tup [.int (itr f i x), .int (itr g i y)]) = H1' at hT nL1 s01
    refine walkQ_it (walk_tup (K := K) (a := T) (xs := [itr f i x, itr g i y].map V.int)) (fun j H' => H' = upd H1' L (.lst ((wv f g x y (2 * i) ++ [itr f i x, itr g i y].take j).map V.int)) ∧ j ≤ 2) ⟨by rw [List.take_zero, List.append_nil], by omega⟩ ?_ ?_ ?_
    · rintro j H' _ ⟨rfl, _⟩
      exact SqT.of (same_new nL1 _ _ hT)
    · rintro j z H' H'' hj ⟨rfl, _⟩ ⟨rfl, hz⟩
      obtain ⟨rfl, lj⟩ := vget hz
      refine ⟨rfl, yesX ?_⟩
      refine ⟨_, rfl, _, upd_same, szl (by rw [List.length_map, List.length_append, wv_len]; have := List.length_take_le j [itr f i x, itr g i y]; have l2 : [itr f i x, itr g i y].length = 2 := rfl; omega), ?_, by have l2 : [itr f i x, itr g i y].length = 2 := rfl; omega⟩
      rw [upd_upd, take_snoc lj, ← List.append_assoc, List.map_append (l₂ := [_])]
      rfl
    · rintro H' ⟨rfl, _⟩
      refine ⟨H1', s01, nL1, ?_, by omega⟩
      rw [wv_two, List.append_assoc]
      rfl
  · rintro H3 ⟨H0, s0, n0', rfl, _⟩
    have s3 := same_new (o := .lst ((wv f g x y (2 * k)).map V.int)) n0'
    refine ⟨_, rfl, _, rfl, _, rfl, L, _, rfl, SqL.of upd_same, fun c nc => ?_⟩
    obtain ⟨n', rfl⟩ := Int.eq_ofNat_of_zero_le n0
    rw [cut_takeI, wv_take _ _ _ _ (by omega)]
    have sc := same_new (o := .lst ((wv f g x y n').map V.int)) nc
    refine ⟨c, _, rfl, .inl ⟨SqL.of upd_same, fun z nz => ?_⟩⟩
    have sz := same_new (o := .tup ((wv f g x y n').map V.int)) nz
    have sA := s1.trans (s2.trans (s0.trans s3))
    exact q ⟨a0, a1⟩ ⟨b0, b1⟩ _ z (sA.trans (sc.trans sz)) (sA.free (sc.free nz)) upd_same
end
end Tw


namespace Tw
open PySem PySem.Spec PyProof.Rows L2
abbrev s_unwoven : Stmt := topS 24
theorem sc_unwoven : FnScope ["row", "bound", "other_bound", "place", "number"] ["row", "bound", "other_bound"] (defScope s_unwoven) := ⟨rfl, rfl, rfl, by decide +kernel, rfl, by decide +kernel, by decide +kernel⟩
section
variable {P : Program} {w : World} {K : PySem.W.Frag} {mg : Str → Option Value} {base : Heap}
theorem ok_unwoven {CN : Addr} (D : Top K mg "unwoven" s_unwoven ["row", "bound", "other_bound"]) (h_check_number : Has P w K mg base (L2.CX P w) 3 "check_number" ["number", "bound"] (sp2 (pCheck CN))) (h_times_that_fit : Has P w K mg base (L2.CX P w) 7 "times_that_fit" ["row", "bound"] (sp2 (pTimes K CN))) (z_enumerate : mg "enumerate" = none) :
    Has P w K mg base (L2.CX P w) 8 "unwoven" ["row", "bound", "other_bound"] (sp3 (pUnw K CN)) := by
  refine D.ok3X sc_unwoven (fun f cdv A outer s H v1 v2 v3 Q E hr h => ?_)
  obtain ⟨r, xs, m1, m2, rfl, rfl, rfl, hS, a1, a2, b1, b2, x1, x2, q, eB⟩ := h
  refine ⟨_, (pss_cons (ps_for (passes_of rfl) rfl (pi_enumX (by rfl) z_enumerate (pa_cons (pv 0) pa_nil)) (pg_tup rfl (pgs_cons (pg_name (i := 3) sc_unwoven.nd rfl (.inl rfl)) (pgs_cons (pg_name (i := 4) sc_unwoven.nd rfl (.inl rfl)) pgs_nil))) (pss_one (ps_expr (pe_own h_check_number (hr.mono (by decide)) (passes_call (takes_of rfl rfl rfl rfl) (fun _ _ _ _ z => z)) (pa_cons (pv 4) (pa_cons (pe_ifExp (pt_cmpR op_eq (pe_op op_mod (pv 3) pe_int) pe_int (nomark _)) (pv 1) (pv 2)) pa_nil))))))
 (pss_one (ps_ret (pe_tup (pa_cons (pe_own h_times_that_fit (hr.mono (by decide)) (passes_call (takes_of rfl rfl rfl rfl) (fun _ _ _ _ z => z)) (pa_cons (pe_stT (pv 0) po_none (po_some pe_int)) (pa_cons (pv 1) pa_nil))) (pa_cons (pe_own h_times_that_fit (hr.mono (by decide)) (passes_call (takes_of rfl rfl rfl rfl) (fun _ _ _ _ z => z)) (pa_cons (pe_stT (pv 0) (po_some pe_int) (po_some pe_int)) (pa_cons (pv 2) pa_nil))) pa_nil)))))), ?_⟩
  refine ⟨_, rfl, true, r, _, rfl, hS, for_it (walk_ex (K := K) (t := true) (a := r) (xs := xs.map V.int)) (fun i σ H' => ∃ (y3 y4 : Option V), σ = [some (.ref r), some (.int m1), some (.int m2), y3, y4] ∧ Same H H' ∧ ∀ j, j < i → 0 ≤ xs.getD j 0 ∧ xs.getD j 0 < bdw m1 m2 j) ⟨none, none, rfl, fun _ _ z => z, fun j hj => absurd hj (Nat.not_lt_zero _)⟩ ?_ ?_ ?_⟩
  · rintro i σ H' _ ⟨y3, y4, rfl, sm, _⟩
    exact sm.tup hS
  · rintro i x σ H' H'' hi ⟨y3, y4, rfl, sm, good⟩ ⟨T, x, rfl, nT, rfl, g⟩
    obtain ⟨rfl, li⟩ := vget g
    have sT := same_new (o := .tup [.int (i : Nat), .int (xs.getD i 0)]) nT
    refine ⟨T, _, rfl, SqT.of upd_same, rfl, _, _, rfl, _, _, rfl, rfl, ?_⟩
    refine ⟨_, rfl, _, rfl, _, _, rfl, rfl, by show (0 : Int) < 2; decide, rfl, _, rfl, ?_⟩
    have hr1 := (sm.trans sT).tup hS
    refine ifD (fun e => ?_) (fun e => ?_)
    · have eb : bdw m1 m2 i = m1 := if_pos (by have := V.int.inj e; omega)
      refine ⟨_, rfl, _, _, rfl, xs.getD i 0, m1, rfl, rfl, fun c0 c1 => ⟨_, _, rfl, sm.trans sT, fun j hj => ?_⟩, fun nb d nd => ?_⟩
      · by_cases ej : j = i
        · rw [ej, eb]; exact ⟨c0, c1⟩
        · exact good j (by omega)
      · exact eB i ⟨li, by rw [eb]; exact nb, good⟩ _ (sm.trans sT) d nd
    · have eb : bdw m1 m2 i = m2 := if_neg (fun z => e (congrArg V.int (show (i : Int) % 2 = 0 by omega)))
      refine ⟨_, rfl, _, _, rfl, xs.getD i 0, m2, rfl, rfl, fun c0 c1 => ⟨_, _, rfl, sm.trans sT, fun j hj => ?_⟩, fun nb d nd => ?_⟩
      · by_cases ej : j = i
        · rw [ej, eb]; exact ⟨c0, c1⟩
        · exact good j (by omega)
      · exact eB i ⟨li, by rw [eb]; exact nb, good⟩ _ (sm.trans sT) d nd
  · rintro σ H1 ⟨y3, y4, rfl, s1, good⟩
    rw [List.length_map] at good
    have rg : RngW m1 m2 xs := good
    have hr1 := s1.tup hS
    have f1 := st_fx (xs := xs) (i := 0) (l := none) (.inr ⟨rfl, rfl⟩) (by decide) (by omega) (by omega)
    have f2 := st_fx (xs := xs) (i := 1) (l := some 1) (.inl rfl) (by decide) (by omega) (by omega)
    refine ⟨_, rfl, _, rfl, r, _, 2, _, _, rfl, hr1, rfl, by decide, by decide, f1.1, f1.2.1, f1.2.2, fun q1 nq1 => ?_⟩
    rw [stepL_two (i := 0) (by decide)]
    have s5 := same_new (o := .tup ((ev2 xs 0).map V.int)) nq1
    refine ⟨_, rfl, _, _, rfl, q1, ev2 xs 0, m1, rfl, rfl, SqT.of upd_same, a1, a2, by rw [ev2_len]; omega, fun _ H5 w1 s6 g1 _ => ?_, fun i bad => (bad.no (rngW_ev rg (i := 0) (by decide))).elim⟩
    have s56 := s5.trans s6
    refine ⟨_, rfl, _, rfl, _, rfl, r, _, 2, _, _, rfl, s56.tup hr1, rfl, by decide, by decide, f2.1, f2.2.1, f2.2.2, fun q2 nq2 => ?_⟩
    rw [stepL_two (i := 1) (by decide)]
    have s7 := same_new (o := .tup ((ev2 xs 1).map V.int)) nq2
    refine ⟨_, rfl, _, _, rfl, q2, ev2 xs 1, m2, rfl, rfl, SqT.of upd_same, b1, b2, by rw [ev2_len]; omega, fun _ H6 w2 s8 g2 _ => ?_, fun i bad => (bad.no (rngW_ev rg (i := 1) (by decide))).elim⟩
    refine ⟨by show 2 ≤ sizeLine; decide, fun du ndu => ?_⟩
    have s9 := same_new (o := .tup [w1, w2]) ndu
    have s79 := s7.trans (s8.trans s9)
    have sA := s1.trans (s56.trans s79)
    exact q rg _ du w1 w2 sA ((s1.trans (s56.trans (s7.trans s8))).free ndu) upd_same (g1.same s79) (g2.same s9)
end
end Tw


namespace Tw
open PySem PySem.Spec PyProof.Rows L2
abbrev s_walked_on : Stmt := topS 15
theorem sc_walked_on : FnScope ["rule", "start", "places", "number"] ["rule", "start", "places"] (defScope s_walked_on) := ⟨rfl, rfl, rfl, by decide +kernel, rfl, by decide +kernel, by decide +kernel⟩
section
variable {P : Program} {w : World} {K : PySem.W.Frag} {mg : Str → Option Value} {base : Heap}
theorem ok_walked_on {CN : Addr} (D : Top K mg "walked_on" s_walked_on ["rule", "start", "places"]) (h_next_of : Has P w K mg base (L2.CX P w) 4 "next_of" ["rule", "number"] (sp2 (pNextOf K CN))) (z_len : mg "len" = none) :
    Has P w K mg base CX0 5 "walked_on" ["rule", "start", "places"] (sp3 (pWalk K)) := by
  refine D.ok3 sc_walked_on (fun f cdv A outer s H v1 v2 v3 Q E hr h => ?_)
  obtain ⟨r, t, p, m, s0, l, ws0, rfl, rfl, rfl, hr1, R, mM, s00, s01, hl, nd0, rg0, q⟩ := h
  refine ⟨_, (pss_cons (ps_set (i := 3) sc_walked_on.nd rfl (.inl rfl) (pv 1))
 (pss_cons (ps_while PassesOwn.never (pt_cmp (pc_dnotin (hu_of hr) (pv 3) (pv 2))) (pss_cons (ps_dput (hu_of hr) (pv 2) (pv 3) (pe_callB (id := "len") call_lenD (by rfl) z_len (by decide +kernel) (pa_cons (pv 2) pa_nil)) rfl)
 (pss_one (ps_set (i := 3) sc_walked_on.nd rfl (.inl rfl) (pe_own h_next_of (hr.mono (by decide)) passL (pa_cons (pv 0) (pa_cons (pv 3) pa_nil)))))))
 (pss_one (ps_ret (pv 3))))), ?_⟩
  have m0 : 0 < m := by have := R.b1; omega
  have wl0 := int_len nd0 rg0
  refine ⟨_, rfl, ?_⟩
  refine ⟨fun k σ H' => ∃ (ws : List Int) (x : Int), σ = [some (.ref r), some (.int s0), some (.ref l), some (.int x)] ∧ H' = upd H l (.dK (enumD 0 ws)) ∧ ws.Nodup ∧ Rng m ws ∧ 0 ≤ x ∧ x < m ∧ k + ws.length = m.toNat + 1 ∧
    wk (stp t p m) k ws x = wk (stp t p m) (m.toNat + 1 - ws0.length) ws0 s0, ⟨m.toNat + 1 - ws0.length, ws0, s0, rfl, (upd_self hl).symm, nd0, rg0, s00, s01, by omega, rfl⟩, ?_⟩
  rintro k σ H' ⟨ws, x, rfl, rfl, nd, rg, x0, x1, hk, hw⟩
  have wl := int_len nd rg
  have wl2 : (ws.length : Int) ≤ 1000000 := by omega
  refine ⟨_, rfl, _, rfl, l, _, rfl, DGet.k (k := Sum.inl x) upd_same, _, rfl, ?_⟩
  by_cases hx : x ∈ ws
  · rw [enumD_some 0 hx]
    refine ifF rfl ?_
    rw [wk_in hx] at hw
    refine ⟨_, rfl, ?_⟩
    rw [← hw] at q
    exact q
  · rw [enumD_none 0 hx]
    refine ifT rfl ?_
    obtain ⟨k, rfl⟩ : ∃ j, k = j + 1 := ⟨k - 1, by
      have := int_len (nodup_snoc nd hx) (rng_snoc rg ⟨x0, x1⟩)
      rw [List.length_append] at this
      have h1 : ([x] : List Int).length = 1 := rfl
      omega⟩
    rw [wk_out hx] at hw
    refine ⟨fun σ' H' => ∃ (ws : List Int) (x : Int), σ' = [some (.ref r), some (.int s0), some (.ref l), some (.int x)] ∧ H' = upd H l (.dK (enumD 0 ws)) ∧ ws.Nodup ∧ Rng m ws ∧ 0 ≤ x ∧ x < m ∧ k + ws.length = m.toNat + 1 ∧
      wk (stp t p m) k ws x = wk (stp t p m) (m.toNat + 1 - ws0.length) ws0 s0, fun σ' H' hN => ⟨k, Nat.lt_succ_self k, hN⟩, ?_⟩
    refine ⟨_, rfl, l, _, rfl, upd_same, _, rfl, _, rfl, l, _, rfl, DPut.k (k := Sum.inl x) upd_same (szM (by rw [enumD_len]; omega)), ?_⟩
    have e1 : upd (upd H l (.dK (enumD 0 ws))) l (.dK (putK (enumD 0 ws) (Sum.inl x) (.int ((enumD 0 ws).length : Int)))) = upd H l (.dK (enumD 0 (ws ++ [x]))) := by
      rw [upd_upd, putK_new _ (enumD_none 0 hx), enumD_snoc, enumD_len, Nat.zero_add]
    rw [e1]
    have hr2 : SqT K (upd H l (.dK (enumD 0 (ws ++ [x])))) r [.int t, .int p, .int m] := sqT_upd hr1 hl (fun ys z => by cases z) (fun ob v z => by cases z)
    have sr := stp_rng (t := t) (p := p) m0 x
    refine ⟨_, rfl, _, rfl, _, _, rfl, r, t, p, m, x, rfl, rfl, hr2, R, fun _ _ => ?_, fun z => absurd ⟨x0, x1⟩ z⟩
    exact ⟨ws ++ [x], stp t p m x, rfl, rfl, nodup_snoc nd hx, rng_snoc rg ⟨x0, x1⟩, sr.1, sr.2, by rw [List.length_append]; show k + (ws.length + 1) = _; omega, hw⟩
end
end Tw


namespace Tw
open PySem PySem.Spec PyProof.Rows L2
abbrev s_round_from : Stmt := topS 16
theorem sc_round_from : FnScope ["rule", "start", "places", "again"] ["rule", "start"] (defScope s_round_from) := ⟨rfl, rfl, rfl, by decide +kernel, rfl, by decide +kernel, by decide +kernel⟩
section
variable {P : Program} {w : World} {K : PySem.W.Frag} {mg : Str → Option Value} {base : Heap}
theorem ok_round_from {CN : Addr} (D : Top K mg "round_from" s_round_from ["rule", "start"]) (h_check_number : Has P w K mg base (L2.CX P w) 3 "check_number" ["number", "bound"] (sp2 (pCheck CN))) (h_walked_on : Has P w K mg base CX0 5 "walked_on" ["rule", "start", "places"] (sp3 (pWalk K))) (z_len : mg "len" = none) :
    Has P w K mg base (L2.CX P w) 6 "round_from" ["rule", "start"] (sp2 (pRound K CN)) := by
  refine D.ok2X sc_round_from (fun f cdv A outer s H v1 v2 Q E hr h => ?_)
  obtain ⟨r, t, p, m, s0, rfl, rfl, hr1, R, mM, q, e⟩ := h
  refine ⟨_, (pss_cons (ps_expr (pe_own h_check_number (hr.mono (by decide)) (passes_call (takes_of rfl rfl rfl rfl) (fun _ _ _ _ z => z)) (pa_cons (pv 1) (pa_cons (pe_ix ix_tup (pv 0) pe_int (fun _ _ => rfl)) pa_nil))))
 (pss_cons (ps_set (i := 2) sc_round_from.nd rfl (.inl rfl) pe_dnewK)
 (pss_cons (ps_set (i := 3) sc_round_from.nd rfl (.inl rfl) (pe_own h_walked_on (hr.mono (by decide)) pass0 (pa_cons (pv 0) (pa_cons (pv 1) (pa_cons (pv 2) pa_nil)))))
 (pss_one (ps_ret (pe_tup (pa_cons (pe_dget (hu_of hr) (pv 2) (pv 3) (fun _ _ => rfl)) (pa_cons (pe_op op_sub (pe_callB (id := "len") call_lenD (by rfl) z_len (by decide +kernel) (pa_cons (pv 2) pa_nil)) (pe_dget (hu_of hr) (pv 2) (pv 3) (fun _ _ => rfl))) pa_nil)))))))), ?_⟩
  have m0 : 0 < m := by have := R.b1; omega
  refine ⟨_, rfl, _, rfl, r, _, 2, .int m, rfl, rfl, hr1, rfl, _, _, rfl, s0, m, rfl, rfl, fun n0 n1 => ?_, e⟩
  intro l nl
  have s1 := same_new (o := .dK []) nl
  refine ⟨_, rfl, _, rfl, _, rfl, _, _, _, rfl, r, t, p, m, s0, l, [], rfl, rfl, rfl, s1.tup hr1, R, mM, n0, n1, upd_same, List.nodup_nil, (fun x hx => by cases hx), ?_⟩
  have W := wk_good (t := t) (p := p) m0 (m.toNat + 1) [] s0 List.nodup_nil (fun x hx => by cases hx) ⟨n0, n1⟩ (by simp)
  rw [upd_upd]
  have ew : wk (stp t p m) (m.toNat + 1 - ([] : List Int).length) [] s0 = rndW t p m s0 := rfl
  rw [ew]
  have hv : valV (enumD 0 (rndW t p m s0).1) (Sum.inl (rndW t p m s0).2) = some (V.int (rndT t p m s0)) := by
    have W2 : (rndW t p m s0).2 ∈ (rndW t p m s0).1 := W.2.2
    rw [enumD_some 0 W2, Nat.zero_add]
    rfl
  have hg := DGet.k (H := upd H l (.dK (enumD 0 (rndW t p m s0).1))) (a := l) (k := Sum.inl (rndW t p m s0).2) upd_same
  rw [hv] at hg
  refine ⟨_, rfl, _, rfl, l, _, rfl, hg, ?_⟩
  refine ⟨_, rfl, l, _, rfl, upd_same, _, rfl, _, rfl, l, _, rfl, hg, _, _, rfl, rfl, by show 2 ≤ sizeLine; decide, fun u nu => ?_⟩
  have s2 : Same H (upd H l (.dK (enumD 0 (rndW t p m s0).1))) := same_new nl
  refine q n0 n1 _ u (s2.trans (same_new nu)) (s2.free nu) ?_
  rw [upd_same, enumD_len]
  rfl
end
end Tw


namespace Tw
open PySem PySem.Spec PyProof.Rows L2
abbrev s_check_two : Stmt := topS 25
theorem sc_check_two : FnScope ["one", "start", "other", "begin"] ["one", "start", "other", "begin"] (defScope s_check_two) := ⟨rfl, rfl, rfl, by decide +kernel, rfl, by decide +kernel, by decide +kernel⟩
abbrev s_summed_by : Stmt := topS 26
theorem sc_summed_by : FnScope ["one", "start", "other", "begin", "times", "plus", "bound", "other_times", "other_plus", "rest"] ["one", "start", "other", "begin"] (defScope s_summed_by) := ⟨rfl, rfl, rfl, by decide +kernel, rfl, by decide +kernel, by decide +kernel⟩
abbrev s_round_of_two : Stmt := topS 27
theorem sc_round_of_two : FnScope ["one", "start", "other", "begin", "tail", "length", "other_tail", "other_length"] ["one", "start", "other", "begin"] (defScope s_round_of_two) := ⟨rfl, rfl, rfl, by decide +kernel, rfl, by decide +kernel, by decide +kernel⟩
section
variable {P : Program} {w : World} {K : PySem.W.Frag} {mg : Str → Option Value} {base : Heap}
def gNon : Int → Int → Int → Int → Int → Int → Int → Hp → VK → Prop := fun _ _ _ _ _ _ _ H Q => Q .non H
theorem ok_check_two {CN CU : Addr} (D : Top K mg "check_two" s_check_two ["one", "start", "other", "begin"]) (h_check_number : Has P w K mg base (L2.CX P w) 3 "check_number" ["number", "bound"] (sp2 (pCheck CN)))
    (x_NoRule : PySem.W.excIn K CU [.type "ValueError", .type "Exception", .type "BaseException", .type "object"] "ValueError.__new__" = true) (g_NoRule : mg "NoRule" = some (.ref CU)) (k_NoRule : PySem.W.keepIn K (.ref CU) = true) (e_NoRule : PySem.W.subIn K (.ref CU) (.type "BaseException") = some true) (y_NoRule : PySem.W.typeIn K (.ref CU) = some (.type "type")) :
    Has P w K mg base (L2.CX P w) 4 "check_two" ["one", "start", "other", "begin"] (sp4 (pTwo K CN CU gNon)) := by
  refine D.ok4qX sc_check_two (fun f cdv A outer s H v1 v2 v3 v4 Q E hr h => ?_)
  obtain ⟨r1, r2, t1, p1, m1, x, t2, p2, m2, y, rfl, rfl, rfl, rfl, h1, R1, h2, R2, q, e1, e2, e3⟩ := h
  refine ⟨_, (pss_cons (ps_expr (pe_own h_check_number (hr.mono (by decide)) (passes_call (takes_of rfl rfl rfl rfl) (fun _ _ _ _ z => z)) (pa_cons (pv 1) (pa_cons (pe_ix ix_tup (pv 0) pe_int (fun _ _ => rfl)) pa_nil))))
 (pss_cons (ps_expr (pe_own h_check_number (hr.mono (by decide)) (passes_call (takes_of rfl rfl rfl rfl) (fun _ _ _ _ z => z)) (pa_cons (pv 3) (pa_cons (pe_ix ix_tup (pv 2) pe_int (fun _ _ => rfl)) pa_nil))))
 (pss_one (ps_if (pt_cmpR op_ne (pe_ix ix_tup (pv 0) pe_int (fun _ _ => rfl)) (pe_ix ix_tup (pv 2) pe_int (fun _ _ => rfl)) (nomark _)) (pss_one (ps_raise rfl (takes_of rfl rfl rfl rfl) (pmk_own PySem.F.excBase_ValueError x_NoRule g_NoRule k_NoRule (raises_own e_NoRule y_NoRule) (by rfl)))) pss_nil)))), ?_⟩
  refine ⟨_, rfl, _, rfl, r1, _, 2, .int m1, rfl, rfl, h1, rfl, _, _, rfl, x, m1, rfl, rfl, fun a0 a1 => ?_, e1⟩
  refine ⟨_, rfl, _, rfl, r2, _, 2, .int m2, rfl, rfl, h2, rfl, _, _, rfl, y, m2, rfl, rfl, fun b0 b1 => ?_, fun nb => e2 ⟨a0, a1⟩ nb⟩
  refine ⟨_, rfl, r1, _, 2, .int m1, rfl, rfl, h1, rfl, _, rfl, r2, _, 2, .int m2, rfl, rfl, h2, rfl, rfl, _, rfl, ifNI (fun ne => ?_) (fun em => ?_)⟩
  · exact e3 ⟨a0, a1⟩ ⟨b0, b1⟩ ne
  · exact q ⟨a0, a1⟩ ⟨b0, b1⟩ em
theorem ok_summed_by {CN CU : Addr} (D : Top K mg "summed_by" s_summed_by ["one", "start", "other", "begin"]) (h_check_two : Has P w K mg base (L2.CX P w) 4 "check_two" ["one", "start", "other", "begin"] (sp4 (pTwo K CN CU gNon))) :
    Has P w K mg base (L2.CX P w) 5 "summed_by" ["one", "start", "other", "begin"] (sp4 (pTwo K CN CU gSum)) := by
  refine D.ok4qX sc_summed_by (fun f cdv A outer s H v1 v2 v3 v4 Q E hr h => ?_)
  obtain ⟨r1, r2, t1, p1, m1, x, t2, p2, m2, y, rfl, rfl, rfl, rfl, h1, R1, h2, R2, q, e1, e2, e3⟩ := h
  refine ⟨_, (pss_cons (ps_expr (pe_own h_check_two (hr.mono (by decide)) (passes_call (takes_of rfl rfl rfl rfl) (fun _ _ _ _ z => z)) (pa_cons (pv 0) (pa_cons (pv 1) (pa_cons (pv 2) (pa_cons (pv 3) pa_nil))))))
 (pss_cons (ps_asg (pv 0) (pg_tup rfl (pgs_cons (pg_name (i := 4) sc_summed_by.nd rfl (.inl rfl)) (pgs_cons (pg_name (i := 5) sc_summed_by.nd rfl (.inl rfl)) (pgs_cons (pg_name (i := 6) sc_summed_by.nd rfl (.inl rfl)) pgs_nil)))))
 (pss_cons (ps_par (i := 7) (j := 8) (by rfl) sc_summed_by.nd rfl rfl (by decide) rfl rfl (pa_cons (pe_ix ix_tup (pv 2) pe_int (fun _ _ => rfl)) (pa_cons (pe_ix ix_tup (pv 2) pe_int (fun _ _ => rfl)) pa_nil)) (by rfl))
 (pss_cons (ps_set (i := 9) sc_summed_by.nd rfl (.inl rfl) (pe_op op_mod (pe_op op_add (pe_op op_mulB (pv 5) (pe_op op_sub pe_int (pv 7))) (pe_op op_mulB (pv 8) (pe_op op_sub pe_int (pv 4)))) (pv 6)))
 (pss_one (ps_ret (pe_tup (pa_cons (pe_op op_mod (pe_op op_add (pv 4) (pv 7)) (pv 6)) (pa_cons (pe_op op_mod (pe_op op_mulB (pv 4) (pv 7)) (pv 6)) (pa_cons (pv 9) pa_nil)))))))))), ?_⟩
  refine ⟨_, rfl, _, rfl, _, rfl, _, rfl, _, _, _, _, rfl, r1, r2, t1, p1, m1, x, t2, p2, m2, y, rfl, rfl, rfl, rfl, h1, R1, h2, R2, fun a b em => ?_, e1, e2, e3⟩
  have q1 := q a b em
  clear q
  subst em
  have m0 := R1.pos
  have c1 := R1.b2
  have c2 := R1.t0
  have c3 := R1.t1
  have c4 := R1.p0
  have c5 := R1.p1
  have d2 := R2.t0
  have d3 := R2.t1
  have d4 := R2.p0
  have d5 := R2.p1
  refine ⟨_, rfl, r1, _, rfl, h1, rfl, _, _, rfl, _, _, rfl, _, _, rfl, rfl, ?_⟩
  refine ⟨_, rfl, r2, _, 0, .int t2, rfl, rfl, h2, rfl, _, rfl, r2, _, 1, .int p2, rfl, rfl, h2, rfl, _, _, rfl, ?_⟩
  refine ⟨_, rfl, _, rfl, _, _, rfl, rfl, _, _, rfl, rfl, ⟨by unfold Big; omega, by unfold Big; omega⟩, _, rfl, _, rfl, _, _, rfl, rfl, _, _, rfl, rfl, ⟨by unfold Big; omega, by unfold Big; omega⟩, _, _, rfl, rfl, _, rfl, _, _, rfl, rfl, m0, ?_⟩
  refine ⟨_, rfl, _, rfl, _, _, rfl, rfl, _, rfl, _, _, rfl, rfl, m0, _, rfl, _, rfl, _, _, rfl, rfl, ⟨by unfold Big; omega, by unfold Big; omega⟩, _, rfl, _, _, rfl, rfl, m0, _, rfl, by show 3 ≤ sizeLine; decide, fun T nT => ?_⟩
  exact q1 _ T (same_new nT) nT upd_same
theorem ok_round_of_two {CN CU : Addr} (D : Top K mg "round_of_two" s_round_of_two ["one", "start", "other", "begin"]) (h_check_two : Has P w K mg base (L2.CX P w) 4 "check_two" ["one", "start", "other", "begin"] (sp4 (pTwo K CN CU gNon))) (h_round_from : Has P w K mg base (L2.CX P w) 6 "round_from" ["rule", "start"] (sp2 (pRound K CN))) (h_common_divisor : Has P w K mg base CX0 1 "common_divisor" ["one", "other"] (sp2 pGcd)) (z_max : mg "max" = none) :
    Has P w K mg base (L2.CX P w) 7 "round_of_two" ["one", "start", "other", "begin"] (sp4 (pTwo K CN CU gRnd)) := by
  refine D.ok4qX sc_round_of_two (fun f cdv A outer s H v1 v2 v3 v4 Q E hr h => ?_)
  obtain ⟨r1, r2, t1, p1, m1, x, t2, p2, m2, y, rfl, rfl, rfl, rfl, h1, R1, h2, R2, q, e1, e2, e3⟩ := h
  refine ⟨_, (pss_cons (ps_expr (pe_own h_check_two (hr.mono (by decide)) (passes_call (takes_of rfl rfl rfl rfl) (fun _ _ _ _ z => z)) (pa_cons (pv 0) (pa_cons (pv 1) (pa_cons (pv 2) (pa_cons (pv 3) pa_nil))))))
 (pss_cons (ps_asg (pe_own h_round_from (hr.mono (by decide)) (passes_call (takes_of rfl rfl rfl rfl) (fun _ _ _ _ z => z)) (pa_cons (pv 0) (pa_cons (pv 1) pa_nil))) (pg_tup rfl (pgs_cons (pg_name (i := 4) sc_round_of_two.nd rfl (.inl rfl)) (pgs_cons (pg_name (i := 5) sc_round_of_two.nd rfl (.inl rfl)) pgs_nil))))
 (pss_cons (ps_asg (pe_own h_round_from (hr.mono (by decide)) (passes_call (takes_of rfl rfl rfl rfl) (fun _ _ _ _ z => z)) (pa_cons (pv 2) (pa_cons (pv 3) pa_nil))) (pg_tup rfl (pgs_cons (pg_name (i := 6) sc_round_of_two.nd rfl (.inl rfl)) (pgs_cons (pg_name (i := 7) sc_round_of_two.nd rfl (.inl rfl)) pgs_nil))))
 (pss_one (ps_ret (pe_tup (pa_cons (pe_callB (id := "max") (call_max2 rfl) (by rfl) z_max (by decide +kernel) (pa_cons (pv 4) (pa_cons (pv 6) pa_nil))) (pa_cons (pe_op op_fdivB (pe_op op_mulB (pv 5) (pv 7)) (pe_own h_common_divisor (hr.mono (by decide)) pass0 (pa_cons (pv 5) (pa_cons (pv 7) pa_nil)))) pa_nil)))))))), ?_⟩
  refine ⟨_, rfl, _, rfl, _, rfl, _, rfl, _, _, _, _, rfl, r1, r2, t1, p1, m1, x, t2, p2, m2, y, rfl, rfl, rfl, rfl, h1, R1, h2, R2, fun a b em => ?_, e1, e2, e3⟩
  obtain ⟨mM, q1⟩ := q a b em
  clear q
  subst em
  have m0 := R1.pos
  refine ⟨_, rfl, _, rfl, _, _, rfl, r1, t1, p1, m1, x, rfl, rfl, h1, R1, mM, fun _ _ H1 k1 s1 nk1 hk1 => ?_, fun z => absurd a z⟩
  refine ⟨k1, _, rfl, SqT.of hk1, rfl, _, _, rfl, _, _, rfl, rfl, ?_⟩
  refine ⟨_, rfl, _, rfl, _, _, rfl, r2, t2, p2, m1, y, rfl, rfl, s1.tup h2, R2, mM, fun _ _ H2 k2 s2 nk2 hk2 => ?_, fun z => absurd b z⟩
  refine ⟨k2, _, rfl, SqT.of hk2, rfl, _, _, rfl, _, _, rfl, rfl, ?_⟩
  have b1 := rnd_bd (t := t1) (p := p1) m0 a.1 a.2
  have b2 := rnd_bd (t := t2) (p := p2) m0 b.1 b.2
  have g0 := gcd_pos2 (b := rndL t2 p2 m1 y) b1.2.1
  have g1 : (Int.gcd (rndL t1 p1 m1 x) (rndL t2 p2 m1 y) : Int) ≤ rndL t1 p1 m1 x := Int.le_of_dvd b1.2.1 (Int.gcd_dvd_left ..)
  refine ⟨_, rfl, _, rfl, _, _, rfl, ?_⟩
  refine ⟨_, rfl, _, rfl, _, _, rfl, rfl, ⟨by unfold Big; omega, by unfold Big; omega⟩, _, rfl, _, rfl, _, _, rfl, _, _, rfl, rfl, by omega, by omega, _, _, rfl, rfl, ⟨by omega, by omega⟩, by show 2 ≤ sizeLine; decide, fun T nT => ?_⟩
  exact q1 _ T (s1.trans (s2.trans (same_new nT))) (s1.free (s2.free nT)) upd_same
end
end Tw


namespace Tw
open PySem PySem.Spec PyProof.Rows L2
abbrev s_woven_right : Stmt := topS 34
theorem sc_woven_right : FnScope ["one", "start", "other", "begin", "row", "told", "rule", "pair"] ["one", "start", "other", "begin"] (defScope s_woven_right) := ⟨rfl, rfl, rfl, by decide +kernel, rfl, by decide +kernel, by decide +kernel⟩
abbrev s_sums_right : Stmt := topS 35
theorem sc_sums_right : FnScope ["one", "start", "other", "begin", "both", "product", "more", "sums", "k", "behind", "pair"] ["one", "start", "other", "begin"] (defScope s_sums_right) := ⟨rfl, rfl, rfl, by decide +kernel, rfl, by decide +kernel, by decide +kernel⟩
abbrev s_rounds_right : Stmt := topS 36
theorem sc_rounds_right : FnScope ["one", "start", "other", "begin", "tail", "length", "alone"] ["one", "start", "other", "begin"] (defScope s_rounds_right) := ⟨rfl, rfl, rfl, by decide +kernel, rfl, by decide +kernel, by decide +kernel⟩
abbrev s_law : Stmt := topS 37
theorem sc_law : FnScope ["script", "deck", "turn", "one", "other", "start", "begin"] ["script"] (defScope s_law) := ⟨rfl, rfl, rfl, by decide +kernel, rfl, by decide +kernel, by decide +kernel⟩
section
variable {P : Program} {w : World} {K : PySem.W.Frag} {mg : Str → Option Value} {base : Heap}
theorem ok_woven_right {CN : Addr} (D : Top K mg "_law_woven_right" s_woven_right ["one", "start", "other", "begin"]) (h_woven : Has P w K mg base (L2.CX P w) 6 "woven" ["one", "start", "other", "begin", "many"] (sp5 (pWoven K CN))) (h_row_from : Has P w K mg base (L2.CX P w) 5 "row_from" ["rule", "start", "many"] (sp3 (pRowFrom K CN)))
    (h_unwoven : Has P w K mg base (L2.CX P w) 8 "unwoven" ["row", "bound", "other_bound"] (sp3 (pUnw K CN))) (h_times_that_fit : Has P w K mg base (L2.CX P w) 7 "times_that_fit" ["row", "bound"] (sp2 (pTimes K CN))) (z_zip : mg "zip" = none) :
    Has P w K mg base CX0 9 "_law_woven_right" ["one", "start", "other", "begin"] (sp4 (pTwoL K 1000000000000 gYes)) := by
  refine D.ok4q sc_woven_right (fun f cdv A outer s H v1 v2 v3 v4 Q E hr h => ?_)
  obtain ⟨r1, r2, t1, p1, m, x, t2, p2, y, rfl, rfl, rfl, rfl, h1, R1, h2, R2, _, x0, x1, y0, y1, q⟩ := h
  refine ⟨_, (pss_cons (ps_set (i := 4) sc_woven_right.nd rfl (.inl rfl) (pe_own h_woven (hr.mono (by decide)) passL (pa_cons (pv 0) (pa_cons (pv 1) (pa_cons (pv 2) (pa_cons (pv 3) (pa_cons pe_int pa_nil)))))))
 (pss_cons (ps_if (PW.pt (pw_or (pt_cmpR (op_neD hr.units) (pe_stT (pv 4) po_none (po_some pe_int)) (pe_own h_row_from (hr.mono (by decide)) passL (pa_cons (pv 0) (pa_cons (pv 1) (pa_cons pe_int pa_nil)))) (nomark _)) (pw_or1 (pt_cmpR (op_neD hr.units) (pe_stT (pv 4) (po_some pe_int) (po_some pe_int)) (pe_own h_row_from (hr.mono (by decide)) passL (pa_cons (pv 2) (pa_cons (pv 3) (pa_cons pe_int pa_nil)))) (nomark _))))) (pss_one (ps_ret pe_bl)) pss_nil)
 (pss_cons (ps_set (i := 5) sc_woven_right.nd rfl (.inl rfl) (pe_own h_unwoven (hr.mono (by decide)) passL (pa_cons (pv 4) (pa_cons (pe_ix ix_tup (pv 0) pe_int (fun _ _ => rfl)) (pa_cons (pe_ix ix_tup (pv 2) pe_int (fun _ _ => rfl)) pa_nil)))))
 (pss_cons (ps_for PassesOwn.never rfl (pi_x2 (by rfl) z_zip (pa_cons (pe_tup (pa_cons (pv 0) (pa_cons (pv 2) pa_nil))) (pa_cons (pv 5) pa_nil))) (pg_tup rfl (pgs_cons (pg_name (i := 6) sc_woven_right.nd rfl (.inl rfl)) (pgs_cons (pg_name (i := 7) sc_woven_right.nd rfl (.inl rfl)) pgs_nil))) (pss_one (ps_if (PW.pt (pw_or (pt_cmpR op_isN (pv 7) pe_non (nomark _)) (pw_or (pt_cmpR op_ne (pe_op op_mod (pe_op op_sub (pe_ix ix_tup (pv 6) pe_int (fun _ _ => rfl)) (pe_ix ix_tup (pv 7) pe_int (fun _ _ => rfl))) (pe_ix ix_tup (pv 7) pe_int (fun _ _ => rfl))) pe_int (nomark _)) (pw_or (pt_cmpR op_ne (pe_op op_mod (pe_ix ix_tup (pv 6) pe_int (fun _ _ => rfl)) (pe_ix ix_tup (pv 7) pe_int (fun _ _ => rfl))) pe_int (nomark _)) (pw_or1 (pt_not (pt_chain op_le op_lt pe_int (pe_ix ix_tup (pv 7) pe_int (fun _ _ => rfl)) (pe_ix ix_tup (pv 7) pe_int (fun _ _ => rfl))))))))) (pss_one (ps_ret pe_bl)) pss_nil)))
 (pss_cons (ps_if (pt_cmpR (op_neD hr.units) (pv 5) (pe_tup (pa_cons (pe_own h_times_that_fit (hr.mono (by decide)) passL (pa_cons (pe_stT (pv 4) po_none (po_some pe_int)) (pa_cons (pe_ix ix_tup (pv 0) pe_int (fun _ _ => rfl)) pa_nil))) (pa_cons (pe_own h_times_that_fit (hr.mono (by decide)) passL (pa_cons (pe_stT (pv 4) (po_some pe_int) (po_some pe_int)) (pa_cons (pe_ix ix_tup (pv 2) pe_int (fun _ _ => rfl)) pa_nil))) pa_nil))) (nomark _)) (pss_one (ps_ret pe_bl)) pss_nil)
 (pss_one (ps_ret (pe_cmpR (op_eqD hr.units) (pe_own h_unwoven (hr.mono (by decide)) passL (pa_cons (pe_own h_woven (hr.mono (by decide)) passL (pa_cons (pv 2) (pa_cons (pv 3) (pa_cons (pv 0) (pa_cons (pv 1) (pa_cons pe_int pa_nil)))))) (pa_cons (pe_ix ix_tup (pv 2) pe_int (fun _ _ => rfl)) (pa_cons (pe_ix ix_tup (pv 0) pe_int (fun _ _ => rfl)) pa_nil)))) (pe_stT (pv 5) po_none (po_some (pe_un un_neg pe_int))) (nomark _))))))))), ?_⟩
  have m0 := R1.pos
  have c1 := R1.b2
  refine ⟨_, rfl, _, rfl, _, rfl, _, rfl, _, _, _, _, _, rfl, r1, r2, t1, p1, m, x, t2, p2, m, y, 60, rfl, rfl, rfl, rfl, rfl, h1, R1, h2, R2, by decide, by decide, fun _ _ H1 u s1 nu hu => ?_, fun z => absurd ⟨x0, x1⟩ z, fun _ z => absurd ⟨y0, y1⟩ z⟩
  have hu : H1 u = some (.tup ((wv (stp t1 p1 m) (stp t2 p2 m) x y (2 * 30)).map V.int)) := hu
  have lz : (wv (stp t1 p1 m) (stp t2 p2 m) x y (2 * 30)).length = 60 := wv_len ..
  have ea := ev2_wv0 (stp t1 p1 m) (stp t2 p2 m) x y 30
  have eb := ev2_wv1 (stp t1 p1 m) (stp t2 p2 m) x y 30
  have rg := wv_rngW (t1 := t1) (p1 := p1) (t2 := t2) (p2 := p2) m0 m0 ⟨x0, x1⟩ ⟨y0, y1⟩ (2 * 30)
  generalize wv (stp t1 p1 m) (stp t2 p2 m) x y (2 * 30) = zs at hu lz ea eb rg
  have k1 := st_fx (xs := zs) (i := 0) (l := none) (.inr ⟨rfl, rfl⟩) (by decide) (by omega) (by omega)
  have k2 := st_fx (xs := zs) (i := 1) (l := some 1) (.inl rfl) (by decide) (by omega) (by omega)
  have h11 := s1.tup h1
  have h21 := s1.tup h2
  refine ⟨_, rfl, _, rfl, u, _, 2, _, _, rfl, SqT.of hu, rfl, by decide, by decide, k1.1, k1.2.1, k1.2.2, fun q1 nq1 => ?_⟩
  rw [stepL_two (i := 0) (by decide), ea]
  have s2 := same_new (o := .tup ((orb (stp t1 p1 m) 30 x).map V.int)) nq1
  refine ⟨_, rfl, _, rfl, _, _, _, rfl, r1, t1, p1, m, x, 30, rfl, rfl, rfl, s2.tup h11, R1, by decide, by decide, fun _ _ H3 w1 s3 nw1 hw1 => ?_, fun z => absurd ⟨x0, x1⟩ z⟩
  refine ⟨.tuple ((orb (stp t1 p1 m) 30 x).map PyData.int), .tuple ((orb (stp t1 p1 m) 30 x).map PyData.int), .tup (SqT.of (s3 _ _ upd_same)) (dp_ints _), .tup (SqT.of hw1) (dp_ints _), shp_ints _, shp_ints _, _, rfl, ?_⟩
  refine ifF (by rw [eqv_self (shp_ints _)]; rfl) ?_
  have s13 := s1.trans (s2.trans s3)
  have hu3 := s3 _ _ (s2 _ _ hu)
  refine ⟨_, rfl, _, rfl, _, rfl, u, _, 2, _, _, rfl, SqT.of hu3, rfl, by decide, by decide, k2.1, k2.2.1, k2.2.2, fun q2 nq2 => ?_⟩
  rw [stepL_two (i := 1) (by decide), eb]
  have s4 := same_new (o := .tup ((orb (stp t2 p2 m) 30 y).map V.int)) nq2
  refine ⟨_, rfl, _, rfl, _, _, _, rfl, r2, t2, p2, m, y, 30, rfl, rfl, rfl, s4.tup (s13.tup h2), R2, by decide, by decide, fun _ _ H5 w2 s5 nw2 hw2 => ?_, fun z => absurd ⟨y0, y1⟩ z⟩
  refine ⟨.tuple ((orb (stp t2 p2 m) 30 y).map PyData.int), .tuple ((orb (stp t2 p2 m) 30 y).map PyData.int), .tup (SqT.of (s5 _ _ upd_same)) (dp_ints _), .tup (SqT.of hw2) (dp_ints _), shp_ints _, shp_ints _, _, rfl, ?_⟩
  refine ifF (by rw [eqv_self (shp_ints _)]; rfl) ?_
  have s15 := s13.trans (s4.trans s5)
  have hu5 := s5 _ _ (s4 _ _ hu3)
  have h15 := s15.tup h1
  have h25 := s15.tup h2
  refine ⟨_, rfl, _, rfl, r1, _, 2, .int m, rfl, rfl, h15, rfl, _, rfl, r2, _, 2, .int m, rfl, rfl, h25, rfl, _, _, _, rfl, u, zs, m, m, rfl, rfl, rfl, SqT.of hu5, R1.b1, c1, R1.b1, c1, by omega, by omega, fun _ H6 to v1 v2 s6 nto hto f1 f2 => ?_, fun i bad => (bad.no rg).elim⟩
  rw [ea, orb_len] at f1
  rw [eb, orb_len] at f2
  obtain ⟨a1, l1, st1, rfl, ha1, F1, b11, b12, b13, b14, b15⟩ := fit_own_some (by decide) f1
  obtain ⟨a2, l2, st2, rfl, ha2, F2, b21, b22, b23, b24, b25⟩ := fit_own_some (by decide) f2
  have s16 := s15.trans s6
  have h16 := s16.tup h1
  have h26 := s16.tup h2
  refine ⟨_, rfl, _, rfl, by show 2 ≤ sizeLine; decide, fun tp ntp => ?_⟩
  have s7 := same_new (o := .tup [.ref r1, .ref r2]) ntp
  have htp : (upd H6 tp (.tup [.ref r1, .ref r2])) tp = some (.tup [.ref r1, .ref r2]) := upd_same
  have s17 := s16.trans s7
  have hto7 := s7 _ _ hto
  have ha17 := s7 _ _ ha1
  have ha27 := s7 _ _ ha2
  have hu7 := s7 _ _ (s6 _ _ hu5)
  generalize upd H6 tp (.tup [.ref r1, .ref r2]) = H7 at htp s17 hto7 ha17 ha27 hu7
  refine ⟨_, rfl, true, true, tp, to, _, _, rfl, SqT.of htp, SqT.of hto7, for_it (walk_x2 (K := K) (t1 := true) (t2 := true) (a1 := tp) (a2 := to) (l1 := [.ref r1, .ref r2]) (l2 := [.ref a1, .ref a2]) (n := 2) rfl) (fun j σ H' => ∃ (y6 y7 : Option V), σ = [some (.ref r1), some (.int x), some (.ref r2), some (.int y), some (.ref u), some (.ref to), y6, y7] ∧ Same H7 H') ⟨_, _, rfl, fun _ _ z => z⟩ ?_ ?_ ?_⟩
  · rintro j σ H' _ ⟨y6, y7, rfl, sJ⟩
    exact ⟨SqT.of (sJ _ _ htp), SqT.of (sJ _ _ hto7)⟩
  · rintro j v σ H' H'' hj ⟨y6, y7, rfl, sJ⟩ ⟨T, e1, e2, rfl, nT, rfl, g1, g2⟩
    have sT := same_new (o := .tup [e1, e2]) nT
    obtain ⟨r, a, t, p, l, st, rfl, rfl, hr1, ha, b1, b2, b3, b4, b5⟩ : ∃ (r a : Addr) (t p l st : Int), e1 = .ref r ∧ e2 = .ref a ∧ SqT K (upd H' T (.tup [e1, e2])) r [.int t, .int p, .int m] ∧ (upd H' T (.tup [e1, e2])) a = some (.tup [.int l, .int st]) ∧ 0 < st ∧ 0 ≤ l ∧ l < st ∧ (t - l) % st = 0 ∧ m % st = 0 := by
      have j01 : j = 0 ∨ j = 1 := by omega
      rcases j01 with rfl | rfl
      · cases g1
        cases g2
        exact ⟨r1, a1, t1, p1, l1, st1, rfl, rfl, (s17.trans (sJ.trans sT)).tup h1, sT _ _ (sJ _ _ ha17), b11, b12, b13, b14, b15⟩
      · cases g1
        cases g2
        exact ⟨r2, a2, t2, p2, l2, st2, rfl, rfl, (s17.trans (sJ.trans sT)).tup h2, sT _ _ (sJ _ _ ha27), b21, b22, b23, b24, b25⟩
    refine ⟨T, _, rfl, SqT.of upd_same, rfl, _, _, rfl, _, _, rfl, rfl, ?_⟩
    refine ⟨_, rfl, rfl, _, rfl, ifF rfl ?_⟩
    refine ⟨_, rfl, r, _, 0, .int t, rfl, rfl, hr1, rfl, _, rfl, a, _, 0, .int l, rfl, rfl, SqT.of ha, rfl, _, _, rfl, rfl, _, rfl, a, _, 1, .int st, rfl, rfl, SqT.of ha, rfl, _, _, rfl, rfl, b1, rfl, _, rfl, ifNI (fun ne => absurd b4 ne) (fun _ => ?_)⟩
    refine ⟨_, rfl, r, _, 2, .int m, rfl, rfl, hr1, rfl, _, rfl, a, _, 1, .int st, rfl, rfl, SqT.of ha, rfl, _, _, rfl, rfl, b1, rfl, _, rfl, ifNI (fun ne => absurd b5 ne) (fun _ => ?_)⟩
    refine ⟨_, rfl, a, _, 0, .int l, rfl, rfl, SqT.of ha, rfl, _, _, rfl, rfl, _, rfl, ifD (fun _ => ?_) (fun z => absurd b2 z)⟩
    refine ⟨_, rfl, a, _, 1, .int st, rfl, rfl, SqT.of ha, rfl, _, _, rfl, rfl, ?_⟩
    refine ⟨_, rfl, ifN (fun z => absurd b3 z) (fun _ => ?_)⟩
    exact ⟨_, _, rfl, sJ.trans sT⟩
  rintro σ H8 ⟨y6, y7, rfl, s8⟩
  have s18 := s17.trans s8
  have hu8 := s8 _ _ hu7
  have hto8 := s8 _ _ hto7
  have ha18 := s8 _ _ ha17
  have ha28 := s8 _ _ ha27
  -- told of each row alone
  refine ⟨_, rfl, _, rfl, _, rfl, u, _, 2, _, _, rfl, SqT.of hu8, rfl, by decide, by decide, k1.1, k1.2.1, k1.2.2, fun q3 nq3 => ?_⟩
  rw [stepL_two (i := 0) (by decide), ea]
  have s9 := same_new (o := .tup ((orb (stp t1 p1 m) 30 x).map V.int)) nq3
  have s19 := s18.trans s9
  refine ⟨_, rfl, r1, _, 2, .int m, rfl, rfl, s19.tup h1, rfl, _, _, rfl, q3, orb (stp t1 p1 m) 30 x, m, rfl, rfl, SqT.of upd_same, R1.b1, c1, by rw [orb_len]; decide, fun _ H10 v3 s10 f3 _ => ?_, fun i bad => (bad.no (by rw [← ea]; have := rngW_ev rg (i := 0) (by decide); exact this)).elim⟩
  rw [orb_len] at f3
  obtain ⟨a3, l3, st3, rfl, ha3, F3, _⟩ := fit_own_some (by decide) f3
  cases F1.uniq F3
  have s110 := s19.trans s10
  refine ⟨_, rfl, _, rfl, _, rfl, u, _, 2, _, _, rfl, SqT.of (s10 _ _ (s9 _ _ hu8)), rfl, by decide, by decide, k2.1, k2.2.1, k2.2.2, fun q4 nq4 => ?_⟩
  rw [stepL_two (i := 1) (by decide), eb]
  have s11 := same_new (o := .tup ((orb (stp t2 p2 m) 30 y).map V.int)) nq4
  have s111 := s110.trans s11
  refine ⟨_, rfl, r2, _, 2, .int m, rfl, rfl, s111.tup h2, rfl, _, _, rfl, q4, orb (stp t2 p2 m) 30 y, m, rfl, rfl, SqT.of upd_same, R1.b1, c1, by rw [orb_len]; decide, fun _ H12 v4 s12 f4 _ => ?_, fun i bad => (bad.no (by rw [← eb]; have := rngW_ev rg (i := 1) (by decide); exact this)).elim⟩
  rw [orb_len] at f4
  obtain ⟨a4, l4, st4, rfl, ha4, F4, _⟩ := fit_own_some (by decide) f4
  cases F2.uniq F4
  refine ⟨by show 2 ≤ sizeLine; decide, fun w3 nw3 => ?_⟩
  have s13' := same_new (o := .tup [.ref a3, .ref a4]) nw3
  have s8e := s9.trans (s10.trans (s11.trans (s12.trans s13')))
  refine ⟨_, _, dp_two (s8e _ _ hto8) (s8e _ _ ha18) (s8e _ _ ha28), dp_two upd_same (s13' _ _ (s12 _ _ (s11 _ _ ha3))) (s13' _ _ ha4), shp_two _ _ _ _, shp_two _ _ _ _, _, rfl, ?_⟩
  refine ifF (by rw [eqv_self (shp_two _ _ _ _)]; rfl) ?_
  have s113 := s111.trans (s12.trans s13')
  have h1z := s113.tup h1
  have h2z := s113.tup h2
  have hto9 := s8e _ _ hto8
  have ha19 := s8e _ _ ha18
  have ha29 := s8e _ _ ha28
  generalize upd H12 w3 (.tup [.ref a3, .ref a4]) = HA at s113 h1z h2z hto9 ha19 ha29
  refine ⟨_, rfl, _, rfl, _, rfl, _, rfl, _, _, _, _, _, rfl, r2, r1, t2, p2, m, y, t1, p1, m, x, 60, rfl, rfl, rfl, rfl, rfl, h2z, R2, h1z, R1, by decide, by decide, fun _ _ HB u2 sB nu2 hu2 => ?_, fun z => absurd ⟨y0, y1⟩ z, fun _ z => absurd ⟨x0, x1⟩ z⟩
  have hu2 : HB u2 = some (.tup ((wv (stp t2 p2 m) (stp t1 p1 m) y x (2 * 30)).map V.int)) := hu2
  have lz2 : (wv (stp t2 p2 m) (stp t1 p1 m) y x (2 * 30)).length = 60 := wv_len ..
  have ea2 := ev2_wv0 (stp t2 p2 m) (stp t1 p1 m) y x 30
  have eb2 := ev2_wv1 (stp t2 p2 m) (stp t1 p1 m) y x 30
  have rg2 := wv_rngW (t1 := t2) (p1 := p2) (t2 := t1) (p2 := p1) m0 m0 ⟨y0, y1⟩ ⟨x0, x1⟩ (2 * 30)
  generalize wv (stp t2 p2 m) (stp t1 p1 m) y x (2 * 30) = zs2 at hu2 lz2 ea2 eb2 rg2
  refine ⟨_, rfl, r2, _, 2, .int m, rfl, rfl, sB.tup h2z, rfl, _, rfl, r1, _, 2, .int m, rfl, rfl, sB.tup h1z, rfl, _, _, _, rfl, u2, zs2, m, m, rfl, rfl, rfl, SqT.of hu2, R1.b1, c1, R1.b1, c1, by omega, by omega, fun _ HC to2 v5 v6 sC nto2 hto2 f5 f6 => ?_, fun i bad => (bad.no rg2).elim⟩
  rw [ea2, orb_len] at f5
  rw [eb2, orb_len] at f6
  obtain ⟨a5, l5, st5, rfl, ha5, F5, _⟩ := fit_own_some (by decide) f5
  obtain ⟨a6, l6, st6, rfl, ha6, F6, _⟩ := fit_own_some (by decide) f6
  cases F2.uniq F5
  cases F1.uniq F6
  have sBC := sB.trans sC
  refine ⟨_, rfl, _, rfl, _, rfl, to, _, -1, 1, 2, rfl, SqT.of (sBC _ _ hto9), rfl, by decide, by decide, rfl, bk_pl, by decide, fun bk nbk => ?_⟩
  rw [stepL_back]
  have sK := same_new (o := .tup [.ref a2, .ref a1]) nbk
  have sCK := sBC.trans sK
  refine ⟨_, _, dp_two (sK _ _ hto2) (sK _ _ ha5) (sK _ _ ha6), dp_two upd_same (sCK _ _ ha29) (sCK _ _ ha19), shp_two _ _ _ _, shp_two _ _ _ _, ?_⟩
  rw [eqv_self (shp_two _ _ _ _)]
  exact q _ (s113.trans sCK)
theorem ok_sums_right {CN CU : Addr} (D : Top K mg "_law_sums_right" s_sums_right ["one", "start", "other", "begin"]) (h_row_from : Has P w K mg base (L2.CX P w) 5 "row_from" ["rule", "start", "many"] (sp3 (pRowFrom K CN))) (h_summed_by : Has P w K mg base (L2.CX P w) 5 "summed_by" ["one", "start", "other", "begin"] (sp4 (pTwo K CN CU gSum))) (z_zip : mg "zip" = none) (z_sum : mg "sum" = none) (z_range : mg "range" = none) :
    Has P w K mg base CX0 6 "_law_sums_right" ["one", "start", "other", "begin"] (sp4 (pTwoL K 1000000000000 gYes)) := by
  refine D.ok4q sc_sums_right (fun f cdv A outer s H v1 v2 v3 v4 Q E hr h => ?_)
  obtain ⟨r1, r2, t1, p1, m, x, t2, p2, y, rfl, rfl, rfl, rfl, h1, R1, h2, R2, _, x0, x1, y0, y1, q⟩ := h
  refine ⟨_, (pss_cons (ps_asg (pe_own h_summed_by (hr.mono (by decide)) passL (pa_cons (pv 0) (pa_cons (pv 1) (pa_cons (pv 2) (pa_cons (pv 3) pa_nil))))) (pg_tup rfl (pgs_cons (pg_name (i := 4) sc_sums_right.nd rfl (.inl rfl)) (pgs_cons (pg_name (i := 5) sc_sums_right.nd rfl (.inl rfl)) (pgs_cons (pg_name (i := 6) sc_sums_right.nd rfl (.inl rfl)) pgs_nil)))))
 (pss_cons (ps_setLc (i := 7) (own := [("pair", 10)]) (by rfl) sc_sums_right.nd rfl rfl (sw_true rfl rfl rfl (by decide +kernel)) (pi_x2n (by rfl) z_zip (pa_cons (pe_own h_row_from (hr.mono (by decide)) passL (pa_cons (pv 0) (pa_cons (pv 1) (pa_cons pe_int pa_nil)))) (pa_cons (pe_own h_row_from (hr.mono (by decide)) passL (pa_cons (pv 2) (pa_cons (pv 3) (pa_cons pe_int pa_nil)))) pa_nil))) (blkOk_by (own := [("pair", 10)]) (N := ["one", "start", "other", "begin", "both", "product", "more", "sums", "k", "behind", "pair"]) (sc := defScope s_sums_right) (by decide +kernel)) (fun _ _ _ _ _ => pg_name (i := 10) sc_sums_right.nd rfl (Or.inl rfl)) (fun _ _ _ _ _ => pts_nil) (fun _ _ _ _ _ => (pe_op op_mod (pe_callB (id := "sum") (r := rSumT K) (cr_sumT rfl) (by rfl) z_sum (by decide +kernel) (pa_cons (pv 10) pa_nil)) (pe_ix (ix_tup : IxR _ (rIxT K)) (pv 0) pe_int (fun _ _ => rfl)))))
 (pss_cons (ps_for PassesOwn.never rfl (pi_range1 (by rfl) z_range (pa_cons pe_int pa_nil)) (pg_name (i := 8) sc_sums_right.nd rfl (.inl rfl)) (pss_cons (ps_set (i := 9) sc_sums_right.nd rfl (.inl rfl) (pe_op op_sub (pe_op op_mulB (pv 4) (pe_ix ix_list (pv 7) (pe_op op_add (pv 8) pe_int) (fun _ _ => rfl))) (pe_op op_mulB (pv 5) (pe_ix ix_list (pv 7) (pv 8) (fun _ _ => rfl)))))
 (pss_one (ps_if (pt_cmpR op_ne (pe_op op_mod (pe_op op_sub (pe_op op_add (pv 9) (pv 6)) (pe_ix ix_list (pv 7) (pe_op op_add (pv 8) pe_int) (fun _ _ => rfl))) (pe_ix ix_tup (pv 0) pe_int (fun _ _ => rfl))) pe_int (nomark _)) (pss_one (ps_ret pe_bl)) pss_nil))))
 (pss_cons (ps_if (pt_cmpR (op_neD hr.units) (pe_own h_summed_by (hr.mono (by decide)) passL (pa_cons (pv 2) (pa_cons (pv 3) (pa_cons (pv 0) (pa_cons (pv 1) pa_nil))))) (pe_tup (pa_cons (pv 4) (pa_cons (pv 5) (pa_cons (pv 6) pa_nil)))) (nomark _)) (pss_one (ps_ret pe_bl)) pss_nil)
 (pss_one (ps_ret (pe_cmpR (op_eqD hr.units) (pe_own h_summed_by (hr.mono (by decide)) passL (pa_cons (pv 0) (pa_cons pe_int (pa_cons (pv 2) (pa_cons (pe_op op_sub (pe_ix ix_tup (pv 0) pe_int (fun _ _ => rfl)) pe_int) pa_nil))))) (pe_tup (pa_cons (pv 4) (pa_cons (pv 5) (pa_cons (pv 6) pa_nil)))) (nomark _)))))))), ?_⟩
  have m0 := R1.pos
  have c1 := R1.b2
  refine ⟨_, rfl, _, rfl, _, rfl, _, rfl, _, _, _, _, rfl, r1, r2, t1, p1, m, x, t2, p2, m, y, rfl, rfl, rfl, rfl, h1, R1, h2, R2, fun _ _ _ H1 k1 s1 nk1 hk1 => ?_, fun z => absurd ⟨x0, x1⟩ z, fun _ z => absurd ⟨y0, y1⟩ z, fun _ _ z => absurd rfl z⟩
  refine ⟨k1, _, rfl, SqT.of hk1, rfl, _, _, rfl, _, _, rfl, _, _, rfl, rfl, ?_⟩
  have s1' := s1
  refine ⟨_, rfl, _, rfl, _, _, _, rfl, r1, t1, p1, m, x, 60, rfl, rfl, rfl, s1.tup h1, R1, by decide, by decide, fun _ _ HA l1 sA nl1 hl1 => ?_, fun z => absurd ⟨x0, x1⟩ z⟩
  refine ⟨_, rfl, _, rfl, _, _, _, rfl, r2, t2, p2, m, y, 60, rfl, rfl, rfl, (s1.trans sA).tup h2, R2, by decide, by decide, fun _ _ HB l2 sB nl2 hl2 => ?_, fun z => absurd ⟨y0, y1⟩ z⟩
  have hl1 : HA l1 = some (.tup ((orb (stp t1 p1 m) 60 x).map V.int)) := hl1
  have hl2 : HB l2 = some (.tup ((orb (stp t2 p2 m) 60 y).map V.int)) := hl2
  have hl1B := sB _ _ hl1
  have s1B := s1.trans (sA.trans sB)
  refine ⟨true, true, l1, l2, _, _, rfl, SqT.of hl1B, SqT.of hl2, fun L nL => ?_⟩
  let sm : Nat → Int := fun i => (itr (stp t1 p1 m) i x + itr (stp t2 p2 m) i y) % m
  have smb : ∀ i, 0 ≤ sm i ∧ sm i < m := fun i => mod_bd _ m0
  refine lc_it (walk_x2 (K := K) (t1 := true) (t2 := true) (a1 := l1) (a2 := l2) (l1 := (orb (stp t1 p1 m) 60 x).map V.int) (l2 := (orb (stp t2 p2 m) 60 y).map V.int) (n := 60) (by rw [List.length_map, List.length_map, orb_len, orb_len]; rfl)) (fun j H' => ∃ H0, Same HB H0 ∧ H0 L = none ∧ H' = upd H0 L (.lst (((List.range j).map sm).map V.int))) ⟨HB, fun _ _ z => z, nL, rfl⟩ ?_ ?_ ?_
  · rintro i H' _ ⟨H0, s0, n0, rfl⟩
    have s2 : Same HB (upd H0 L (.lst (((List.range i).map sm).map V.int))) := s0.trans (same_new n0)
    exact ⟨SqT.of (s2 _ _ hl1B), SqT.of (s2 _ _ hl2)⟩
  · rintro i z H' H'' hi ⟨H0, s0, n0, rfl⟩ ⟨T, z1, z2, rfl, nT, rfl, g1, g2⟩
    rw [List.getElem?_map, orb_get _ _ hi] at g1 g2
    cases g1
    cases g2
    have neT : L ≠ T := fun z => by rw [← z, upd_same] at nT; cases nT
    have nT0 : H0 T = none := by rw [upd_ne (Ne.symm neT)] at nT; exact nT
    have sL0 := same_new (o := .lst (((List.range i).map sm).map V.int)) n0
    have sT0 := same_new (o := .tup [.int (itr (stp t1 p1 m) i x), .int (itr (stp t2 p2 m) i y)]) nT
    refine ⟨rfl, yesX ?_⟩
    refine ⟨_, rfl, T, [itr (stp t1 p1 m) i x, itr (stp t2 p2 m) i y], rfl, SqT.of upd_same, _, rfl, r1, _, 2, .int m, rfl, rfl, (s1B.trans (s0.trans (sL0.trans sT0))).tup h1, rfl, _, _, rfl, rfl, m0, _, by rw [upd_ne neT, upd_same], szl (by rw [List.length_map, List.length_map, List.length_range]; omega), ?_⟩
    refine ⟨upd H0 T (.tup [.int (itr (stp t1 p1 m) i x), .int (itr (stp t2 p2 m) i y)]), s0.trans (same_new nT0), by rw [upd_ne neT]; exact n0, ?_⟩
    rw [upd_swap neT, upd_upd, List.range_succ, List.map_append, List.map_append]
    have e : ([itr (stp t1 p1 m) i x, itr (stp t2 p2 m) i y].sum) % m = sm i := by
      show (itr (stp t1 p1 m) i x + (itr (stp t2 p2 m) i y + 0)) % m = _
      rw [Int.add_zero]
    show upd _ L (.lst (_ ++ [V.int (([itr (stp t1 p1 m) i x, itr (stp t2 p2 m) i y].sum) % m)])) = _
    rw [e]
    rfl
  rintro H' ⟨H0, s0, n0, rfl⟩
  have sL := same_new (o := .lst (((List.range 60).map sm).map V.int)) n0
  have hL : (upd H0 L (.lst (((List.range 60).map sm).map V.int))) L = some (.lst (((List.range 60).map sm).map V.int)) := upd_same
  have sC := s1B.trans (s0.trans sL)
  generalize upd H0 L (.lst (((List.range 60).map sm).map V.int)) = HC at hL sC
  have h1C := sC.tup h1
  have h2C := sC.tup h2
  have ea : ∀ k : Nat, k < 60 → atI (((List.range 60).map sm).map V.int) (k : Int) = some (.int (sm k)) := fun k hk => atI_nat (by rw [List.getElem?_map, List.getElem?_map, List.getElem?_range hk]; rfl)
  have u1 := mod_bd (t1 + t2) m0
  have u2 := mod_bd (t1 * t2) m0
  have st : ∀ k : Nat, Eqm m (sm (k + 2) - (t1 + t2) % m * sm (k + 1) + t1 * t2 % m * sm k) (thr t1 p1 t2 p2 m) := fun k => sum_three t1 p1 t2 p2 m (itr (stp t1 p1 m) k x) (itr (stp t2 p2 m) k y)
  refine ⟨58, rfl, by decide, by decide, for_range (lo := 0) (n := 58) (fun i σ H' => ∃ (y8 y9 y10 : Option V), σ = [some (.ref r1), some (.int x), some (.ref r2), some (.int y), some (.int ((t1 + t2) % m)), some (.int (t1 * t2 % m)), some (.int (thr t1 p1 t2 p2 m)), some (.ref L), y8, y9, y10] ∧ H' = HC) ⟨_, _, _, rfl, rfl⟩ ?_ ?_⟩
  · rintro i σ H' hi ⟨y8, y9, y10, rfl, rfl⟩
    have k0 := smb i
    have k1 := smb (i + 1)
    have k2 := smb (i + 2)
    refine ⟨_, rfl, _, rfl, _, rfl, _, _, rfl, rfl, L, _, _, .int (sm (i + 1)), rfl, rfl, SqL.of hL, by rw [show (0 + (i : Int) + 1) = ((i + 1 : Nat) : Int) by omega]; exact ea (i + 1) (by omega), _, _, rfl, rfl, ⟨by unfold Big; omega, by unfold Big; omega⟩, _, rfl, _, rfl, _, rfl, L, _, _, .int (sm i), rfl, rfl, SqL.of hL, by rw [show (0 + (i : Int)) = ((i : Nat) : Int) by omega]; exact ea i (by omega), _, _, rfl, rfl, ⟨by unfold Big; omega, by unfold Big; omega⟩, _, _, rfl, rfl, ?_⟩
    refine ⟨_, rfl, _, rfl, _, _, rfl, rfl, _, rfl, _, rfl, _, _, rfl, rfl, L, _, _, .int (sm (i + 2)), rfl, rfl, SqL.of hL, by rw [show (0 + (i : Int) + 2) = ((i + 2 : Nat) : Int) by omega]; exact ea (i + 2) (by omega), _, _, rfl, rfl, _, rfl, r1, _, 2, .int m, rfl, rfl, h1C, rfl, _, _, rfl, rfl, m0, rfl, _, rfl, ifNI (fun ne => absurd ?_ ne) (fun _ => ?_)⟩
    · obtain ⟨c, hc⟩ := st i
      exact Int.emod_eq_zero_of_dvd ⟨-c, by grind⟩
    · exact ⟨_, _, _, rfl, rfl⟩
  rintro σ H' ⟨y8, y9, y10, rfl, rfl⟩
  refine ⟨_, rfl, _, rfl, _, rfl, _, rfl, _, _, _, _, rfl, r2, r1, t2, p2, m, y, t1, p1, m, x, rfl, rfl, rfl, rfl, h2C, R2, h1C, R1, fun _ _ _ HD k2 sD nk2 hk2 => ?_, fun z => absurd ⟨y0, y1⟩ z, fun _ z => absurd ⟨x0, x1⟩ z, fun _ _ z => absurd rfl z⟩
  rw [Int.add_comm t2 t1, Int.mul_comm t2 t1, thr_comm] at hk2
  refine ⟨_, rfl, _, rfl, _, rfl, by show 3 ≤ sizeLine; decide, fun T nT => ?_⟩
  have sT := same_new (o := .tup [.int ((t1 + t2) % m), .int (t1 * t2 % m), .int (thr t1 p1 t2 p2 m)]) nT
  refine ⟨.tuple ([(t1 + t2) % m, t1 * t2 % m, thr t1 p1 t2 p2 m].map PyData.int), .tuple ([(t1 + t2) % m, t1 * t2 % m, thr t1 p1 t2 p2 m].map PyData.int), .tup (SqT.of (sT _ _ hk2)) (dp_ints [_, _, _]), .tup (SqT.of upd_same) (dp_ints [_, _, _]), shp_ints _, shp_ints _, _, rfl, ?_⟩
  refine ifF (by rw [eqv_self (shp_ints _)]; rfl) ?_
  have sE := sC.trans (sD.trans sT)
  have h1E := sE.tup h1
  have h2E := sE.tup h2
  refine ⟨_, rfl, _, rfl, _, rfl, r1, _, 2, .int m, rfl, rfl, h1E, rfl, _, _, rfl, rfl, _, _, _, _, rfl, r1, r2, t1, p1, m, 0, t2, p2, m, m - 1, rfl, rfl, rfl, rfl, h1E, R1, h2E, R2, fun _ _ _ HF k3 sF nk3 hk3 => ?_, fun z => absurd ⟨by omega, by omega⟩ z, fun _ z => absurd ⟨by omega, by omega⟩ z, fun _ _ z => absurd rfl z⟩
  refine ⟨_, rfl, _, rfl, _, rfl, by show 3 ≤ sizeLine; decide, fun T2 nT2 => ?_⟩
  have sT2 := same_new (o := .tup [.int ((t1 + t2) % m), .int (t1 * t2 % m), .int (thr t1 p1 t2 p2 m)]) nT2
  refine ⟨.tuple ([(t1 + t2) % m, t1 * t2 % m, thr t1 p1 t2 p2 m].map PyData.int), .tuple ([(t1 + t2) % m, t1 * t2 % m, thr t1 p1 t2 p2 m].map PyData.int), .tup (SqT.of (sT2 _ _ hk3)) (dp_ints [_, _, _]), .tup (SqT.of upd_same) (dp_ints [_, _, _]), shp_ints _, shp_ints _, ?_⟩
  rw [eqv_self (shp_ints _)]
  exact q _ (sE.trans (sF.trans sT2))
theorem ok_rounds_right {CN CU : Addr} (D : Top K mg "_law_rounds_right" s_rounds_right ["one", "start", "other", "begin"]) (h_round_from : Has P w K mg base (L2.CX P w) 6 "round_from" ["rule", "start"] (sp2 (pRound K CN))) (h_round_of_two : Has P w K mg base (L2.CX P w) 7 "round_of_two" ["one", "start", "other", "begin"] (sp4 (pTwo K CN CU gRnd))) (z_max : mg "max" = none) :
    Has P w K mg base CX0 8 "_law_rounds_right" ["one", "start", "other", "begin"] (sp4 (pTwoL K 2000 gYes)) := by
  refine D.ok4q sc_rounds_right (fun f cdv A outer s H v1 v2 v3 v4 Q E hr h => ?_)
  obtain ⟨r1, r2, t1, p1, m, x, t2, p2, y, rfl, rfl, rfl, rfl, h1, R1, h2, R2, mM, x0, x1, y0, y1, q⟩ := h
  refine ⟨_, (pss_cons (ps_asg (pe_own h_round_of_two (hr.mono (by decide)) passL (pa_cons (pv 0) (pa_cons (pv 1) (pa_cons (pv 2) (pa_cons (pv 3) pa_nil))))) (pg_tup rfl (pgs_cons (pg_name (i := 4) sc_rounds_right.nd rfl (.inl rfl)) (pgs_cons (pg_name (i := 5) sc_rounds_right.nd rfl (.inl rfl)) pgs_nil))))
 (pss_cons (ps_set (i := 6) sc_rounds_right.nd rfl (.inl rfl) (pe_lst (pa_cons (pe_own h_round_from (hr.mono (by decide)) passL (pa_cons (pv 0) (pa_cons (pv 1) pa_nil))) (pa_cons (pe_own h_round_from (hr.mono (by decide)) passL (pa_cons (pv 2) (pa_cons (pv 3) pa_nil))) pa_nil))))
 (pss_cons (ps_if (PW.pt (pw_or (pt_cmpR op_ne (pv 4) (pe_callB (id := "max") (call_max2 rfl) (by rfl) z_max (by decide +kernel) (pa_cons (pe_ix ix_tup (pe_ix ix_list (pv 6) pe_int (fun _ _ => rfl)) pe_int (fun _ _ => rfl)) (pa_cons (pe_ix ix_tup (pe_ix ix_list (pv 6) pe_int (fun _ _ => rfl)) pe_int (fun _ _ => rfl)) pa_nil))) (nomark _)) (pw_or (pt_cmpR op_ne (pe_op op_mod (pv 5) (pe_ix ix_tup (pe_ix ix_list (pv 6) pe_int (fun _ _ => rfl)) pe_int (fun _ _ => rfl))) pe_int (nomark _)) (pw_or1 (pt_cmpR op_ne (pe_op op_mod (pv 5) (pe_ix ix_tup (pe_ix ix_list (pv 6) pe_int (fun _ _ => rfl)) pe_int (fun _ _ => rfl))) pe_int (nomark _)))))) (pss_one (ps_ret pe_bl)) pss_nil)
 (pss_cons (ps_if (PW.pt (pw_or (pt_cmpR op_gt (pv 5) (pe_op op_mulB (pe_ix ix_tup (pe_ix ix_list (pv 6) pe_int (fun _ _ => rfl)) pe_int (fun _ _ => rfl)) (pe_ix ix_tup (pe_ix ix_list (pv 6) pe_int (fun _ _ => rfl)) pe_int (fun _ _ => rfl))) (nomark _)) (pw_or1 (pt_cmpR (op_neD hr.units) (pe_own h_round_of_two (hr.mono (by decide)) passL (pa_cons (pv 2) (pa_cons (pv 3) (pa_cons (pv 0) (pa_cons (pv 1) pa_nil))))) (pe_tup (pa_cons (pv 4) (pa_cons (pv 5) pa_nil))) (nomark _))))) (pss_one (ps_ret pe_bl)) pss_nil)
 (pss_one (ps_ret (pe_cmpR (op_eqD hr.units) (pe_own h_round_of_two (hr.mono (by decide)) passL (pa_cons (pv 0) (pa_cons (pv 1) (pa_cons (pv 0) (pa_cons (pv 1) pa_nil))))) (pe_ix ix_list (pv 6) pe_int (fun _ _ => rfl)) (nomark _)))))))), ?_⟩
  have m0 := R1.pos
  refine ⟨_, rfl, _, rfl, _, rfl, _, rfl, _, _, _, _, rfl, r1, r2, t1, p1, m, x, t2, p2, m, y, rfl, rfl, rfl, rfl, h1, R1, h2, R2, fun _ _ _ => ⟨by omega, fun H1 k1 s1 nk1 hk1 => ?_⟩, fun z => absurd ⟨x0, x1⟩ z, fun _ z => absurd ⟨y0, y1⟩ z, fun _ _ z => absurd rfl z⟩
  refine ⟨k1, _, rfl, SqT.of hk1, rfl, _, _, rfl, _, _, rfl, rfl, ?_⟩
  refine ⟨_, rfl, _, rfl, _, _, rfl, r1, t1, p1, m, x, rfl, rfl, s1.tup h1, R1, by omega, fun _ _ H2 k2 s2 nk2 hk2 => ?_, fun z => absurd ⟨x0, x1⟩ z⟩
  have s12 := s1.trans s2
  refine ⟨_, rfl, _, rfl, _, _, rfl, r2, t2, p2, m, y, rfl, rfl, s12.tup h2, R2, by omega, fun _ _ H3 k3 s3 nk3 hk3 => ?_, fun z => absurd ⟨y0, y1⟩ z⟩
  refine ⟨by show 2 ≤ sizeLine; decide, fun L nL => ?_⟩
  have sL := same_new (o := .lst [.ref k2, .ref k3]) nL
  have hL : (upd H3 L (.lst [.ref k2, .ref k3])) L = some (.lst [.ref k2, .ref k3]) := upd_same
  have s14 := s12.trans (s3.trans sL)
  have g2 := sL _ _ (s3 _ _ hk2)
  have g3 := sL _ _ hk3
  generalize upd H3 L (.lst [.ref k2, .ref k3]) = H4 at hL s14 g2 g3
  have b1 := rnd_bd (t := t1) (p := p1) m0 x0 x1
  have b2 := rnd_bd (t := t2) (p := p2) m0 y0 y1
  have dv := lcI_dvd b1.2.1 b2.2.1
  refine ⟨_, rfl, _, rfl, L, _, 0, .ref k2, rfl, rfl, SqL.of hL, rfl, k2, _, 0, .int (rndT t1 p1 m x), rfl, rfl, SqT.of g2, rfl, _, rfl, L, _, 1, .ref k3, rfl, rfl, SqL.of hL, rfl, k3, _, 0, .int (rndT t2 p2 m y), rfl, rfl, SqT.of g3, rfl, _, _, rfl, rfl, _, rfl, ifNI (fun ne => absurd rfl ne) (fun _ => ?_)⟩
  refine ⟨_, rfl, _, rfl, L, _, 0, .ref k2, rfl, rfl, SqL.of hL, rfl, k2, _, 1, .int (rndL t1 p1 m x), rfl, rfl, SqT.of g2, rfl, _, _, rfl, rfl, b1.2.1, rfl, _, rfl, ifNI (fun ne => absurd dv.1 ne) (fun _ => ?_)⟩
  refine ⟨_, rfl, _, rfl, L, _, 1, .ref k3, rfl, rfl, SqL.of hL, rfl, k3, _, 1, .int (rndL t2 p2 m y), rfl, rfl, SqT.of g3, rfl, _, _, rfl, rfl, b2.2.1, rfl, _, rfl, ifNI (fun ne => absurd dv.2.1 ne) (fun _ => ?_)⟩
  refine ⟨_, rfl, _, rfl, L, _, 0, .ref k2, rfl, rfl, SqL.of hL, rfl, k2, _, 1, .int (rndL t1 p1 m x), rfl, rfl, SqT.of g2, rfl, _, rfl, L, _, 1, .ref k3, rfl, rfl, SqL.of hL, rfl, k3, _, 1, .int (rndL t2 p2 m y), rfl, rfl, SqT.of g3, rfl, _, _, rfl, rfl, ⟨by unfold Big; omega, by unfold Big; omega⟩, _, _, rfl, rfl, _, rfl, ifD (fun z => absurd dv.2.2 (by omega)) (fun _ => ?_)⟩
  have h14 := s14.tup h1
  have h24 := s14.tup h2
  refine ⟨_, rfl, _, rfl, _, rfl, _, rfl, _, _, _, _, rfl, r2, r1, t2, p2, m, y, t1, p1, m, x, rfl, rfl, rfl, rfl, h24, R2, h14, R1, fun _ _ _ => ⟨by omega, fun H5 k5 s5 nk5 hk5 => ?_⟩, fun z => absurd ⟨y0, y1⟩ z, fun _ z => absurd ⟨x0, x1⟩ z, fun _ _ z => absurd rfl z⟩
  rw [mxI_comm, lcI_comm] at hk5
  refine ⟨_, rfl, _, rfl, by show 2 ≤ sizeLine; decide, fun T nT => ?_⟩
  have sT := same_new (o := .tup [.int (mxI (rndT t1 p1 m x) (rndT t2 p2 m y)), .int (lcI (rndL t1 p1 m x) (rndL t2 p2 m y))]) nT
  refine ⟨.tuple ([mxI (rndT t1 p1 m x) (rndT t2 p2 m y), lcI (rndL t1 p1 m x) (rndL t2 p2 m y)].map PyData.int), .tuple ([mxI (rndT t1 p1 m x) (rndT t2 p2 m y), lcI (rndL t1 p1 m x) (rndL t2 p2 m y)].map PyData.int), .tup (SqT.of (sT _ _ hk5)) (dp_ints [_, _]), .tup (SqT.of upd_same) (dp_ints [_, _]), shp_ints _, shp_ints _, _, rfl, ?_⟩
  refine ifF (by rw [eqv_self (shp_ints _)]; rfl) ?_
  have s5T := s5.trans sT
  have s16 := s14.trans s5T
  have h16 := s16.tup h1
  refine ⟨_, rfl, _, rfl, _, rfl, _, rfl, _, _, _, _, rfl, r1, r1, t1, p1, m, x, t1, p1, m, x, rfl, rfl, rfl, rfl, h16, R1, h16, R1, fun _ _ _ => ⟨by omega, fun H7 k7 s7 nk7 hk7 => ?_⟩, fun z => absurd ⟨x0, x1⟩ z, fun _ z => absurd ⟨x0, x1⟩ z, fun _ _ z => absurd rfl z⟩
  rw [mxI_self, lcI_self b1.2.1] at hk7
  refine ⟨_, rfl, L, _, 0, .ref k2, rfl, rfl, SqL.of (s7 _ _ (s5T _ _ hL)), rfl, ?_⟩
  refine ⟨.tuple ([rndT t1 p1 m x, rndL t1 p1 m x].map PyData.int), .tuple ([rndT t1 p1 m x, rndL t1 p1 m x].map PyData.int), .tup (SqT.of hk7) (dp_ints [_, _]), .tup (SqT.of (s7 _ _ (s5T _ _ g2))) (dp_ints [_, _]), shp_ints _, shp_ints _, ?_⟩
  rw [eqv_self (shp_ints _)]
  exact q _ (s16.trans s7)
theorem ok_law {fL : Addr} {fdL : FuncData} (F : Fun K "law" "law" s_law fL fdL) (h_deck : Has P w K mg base CX0 1 "_law_deck" ["script"] (sp1 (pDeckB K))) (h_draw : Has P w K mg base CX0 1 "_law_draw" ["deck", "most"] (sp2 (pDrB 1))) (h_rule : Has P w K mg base CX0 3 "_law_rule" ["deck", "most"] (sp2 pRuleC)) (h_beside : Has P w K mg base CX0 3 "_law_beside" ["deck", "rule"] (sp2 (pBeside K)))
    (h_woven_right : Has P w K mg base CX0 9 "_law_woven_right" ["one", "start", "other", "begin"] (sp4 (pTwoL K 1000000000000 gYes))) (h_sums_right : Has P w K mg base CX0 6 "_law_sums_right" ["one", "start", "other", "begin"] (sp4 (pTwoL K 1000000000000 gYes))) (h_rounds_right : Has P w K mg base CX0 8 "_law_rounds_right" ["one", "start", "other", "begin"] (sp4 (pTwoL K 2000 gYes))) (z_range : mg "range" = none) :
    FnOk P w K mg base CX0 10 fL fdL ["script"] (sp1 fun a H Q _ => ∃ (sa : Addr) (xs : List Int), a = .ref sa ∧ SqL K H sa (xs.map V.int) ∧ xs.length ≤ 63 ∧ (∀ z ∈ xs, Builtin.Int.intBits z ≤ 1048576) ∧ ∀ H', Q (.bl true) H') := by
  refine F.ok sc_law (fun vs H Q E h => by obtain ⟨_, rfl, _⟩ := h; rfl) (fun cdv A outer s H vs Q E hr h => ?_)
  obtain ⟨v1, rfl, sa, xs, rfl, hS, hl, hb, q⟩ := h
  refine ⟨_, (pss_cons (ps_set (i := 1) sc_law.nd rfl (.inl rfl) (pe_own h_deck (hr.mono (by decide)) pass0 (pa_cons (pv 0) pa_nil)))
 (pss_cons (ps_for PassesOwn.never rfl (pi_range1 (by rfl) z_range (pa_cons pe_int pa_nil)) (pg_name (i := 2) sc_law.nd rfl (.inl rfl)) (pss_cons (ps_set (i := 3) sc_law.nd rfl (.inl rfl) (pe_own h_rule (hr.mono (by decide)) pass0 (pa_cons (pv 1) (pa_cons pe_int pa_nil))))
 (pss_cons (ps_set (i := 4) sc_law.nd rfl (.inl rfl) (pe_own h_beside (hr.mono (by decide)) pass0 (pa_cons (pv 1) (pa_cons (pv 3) pa_nil))))
 (pss_cons (ps_par (i := 5) (j := 6) (by rfl) sc_law.nd rfl rfl (by decide) rfl rfl (pa_cons (pe_own h_draw (hr.mono (by decide)) pass0 (pa_cons (pv 1) (pa_cons (pe_ix ix_tup (pv 3) pe_int (fun _ _ => rfl)) pa_nil))) (pa_cons (pe_own h_draw (hr.mono (by decide)) pass0 (pa_cons (pv 1) (pa_cons (pe_ix ix_tup (pv 3) pe_int (fun _ _ => rfl)) pa_nil))) pa_nil)) (by rfl))
 (pss_cons (ps_if (PW.pt (pw_or (pt_not (pt_val (pe_own h_woven_right (hr.mono (by decide)) pass0 (pa_cons (pv 3) (pa_cons (pv 5) (pa_cons (pv 4) (pa_cons (pv 6) pa_nil))))))) (pw_or1 (pt_not (pt_val (pe_own h_sums_right (hr.mono (by decide)) pass0 (pa_cons (pv 3) (pa_cons (pv 5) (pa_cons (pv 4) (pa_cons (pv 6) pa_nil)))))))))) (pss_one (ps_ret pe_bl)) pss_nil)
 (pss_one (ps_if (pt_not (pt_val (pe_own h_rounds_right (hr.mono (by decide)) pass0 (pa_cons (pv 3) (pa_cons (pv 5) (pa_cons (pv 4) (pa_cons (pv 6) pa_nil))))))) (pss_one (ps_ret pe_bl)) pss_nil)))))))
 (pss_one (ps_ret pe_bl)))), ?_⟩
  refine ⟨_, rfl, _, rfl, sa, xs, rfl, hS, hl, hb, fun H1 d s1 nd D1 => ?_⟩
  refine ⟨4, rfl, by decide, by decide, for_range (lo := 0) (n := 4) (fun i σ H' => ∃ (y2 y3 y4 y5 y6 : Option V), σ = [some (.ref sa), some (.ref d), y2, y3, y4, y5, y6] ∧ DeckB H' d (40 * i) ∧ i ≤ 4) ⟨_, _, _, _, _, rfl, D1, by decide⟩ ?_ ?_⟩
  · rintro i σ H2 hi ⟨y2, y3, y4, y5, y6, rfl, D2, _⟩
    refine ⟨_, rfl, _, _, rfl, d, 40 * i, 2000, rfl, rfl, by decide, by decide, D2, by omega, fun H3 r t p m B3 D3 nr hr3 R bm => ?_⟩
    have m0 := R.pos
    refine ⟨_, rfl, _, rfl, _, _, rfl, d, r, 40 * i + 20, t, p, m, rfl, rfl, SqT.of hr3, R, D3, by omega, fun H4 ro t2 p2 B4 D4 hro R2 => ?_⟩
    have hr4 := B4 _ _ (D3.ne_tup hr3) hr3
    refine ⟨_, rfl, _, rfl, r, _, 2, .int m, rfl, rfl, SqT.of hr4, rfl, _, _, rfl, d, 40 * i + 26, m, rfl, rfl, m0, by omega, D4, by omega, fun H5 x B5 D5 x0 x1 => ?_⟩
    have hr5 := B5 _ _ (D4.ne_tup hr4) hr4
    have hro5 := B5 _ _ (D4.ne_tup hro) hro
    refine ⟨_, rfl, _, rfl, r, _, 2, .int m, rfl, rfl, SqT.of hr5, rfl, _, _, rfl, d, 40 * i + 27, m, rfl, rfl, m0, by omega, D5, by omega, fun H6 y B6 D6 y0 y1 => ?_⟩
    have hr6 := B6 _ _ (D5.ne_tup hr5) hr5
    have hro6 := B6 _ _ (D5.ne_tup hro5) hro5
    refine ⟨_, _, rfl, ?_⟩
    refine ⟨_, rfl, _, rfl, _, rfl, _, rfl, _, _, _, _, rfl, r, ro, t, p, m, x, t2, p2, y, rfl, rfl, rfl, rfl, SqT.of hr6, R, SqT.of hro6, R2, by omega, x0, x1, y0, y1, fun H7 s7 => ⟨_, rfl, ifF rfl ?_⟩⟩
    refine ⟨_, rfl, _, rfl, _, rfl, _, rfl, _, _, _, _, rfl, r, ro, t, p, m, x, t2, p2, y, rfl, rfl, rfl, rfl, SqT.of (s7 _ _ hr6), R, SqT.of (s7 _ _ hro6), R2, by omega, x0, x1, y0, y1, fun H8 s8 => ⟨_, rfl, ifF rfl ?_⟩⟩
    have s78 := s7.trans s8
    refine ⟨_, rfl, _, rfl, _, rfl, _, rfl, _, _, _, _, rfl, r, ro, t, p, m, x, t2, p2, y, rfl, rfl, rfl, rfl, SqT.of (s78 _ _ hr6), R, SqT.of (s78 _ _ hro6), R2, bm, x0, x1, y0, y1, fun H9 s9 => ⟨_, rfl, ifF rfl ?_⟩⟩
    exact ⟨_, _, _, _, _, rfl, (D6.same (s78.trans s9)).mono (by omega), by omega⟩
  · rintro σ H' ⟨y2, y3, y4, y5, y6, rfl, D2, _⟩
    exact q _
end
end Tw


namespace Tw
open PySem PySem.Spec PyProof.Rows L2

def spLaw (K : PySem.W.Frag) : Sp := sp1 fun a H Q _ => ∃ (sa : Addr) (xs : List Int), a = .ref sa ∧ SqL K H sa (xs.map V.int) ∧ xs.length ≤ 63 ∧ (∀ z ∈ xs, Builtin.Int.intBits z ≤ 1048576) ∧ ∀ H', Q (.bl true) H'
theorem all_mk {l : PySem.W.OpenLaw} {w : World} {K : PySem.W.Frag} {h : Heap} {mg : Str → Option Value} {fa CR CN CU f0 f1 f2 f3 f4 f5 f6 f7 f8 f9 f10 f11 f12 f13 f14 f15 f16 f17 f18 f19 f20 f21 f22 f23 f24 f25 f26 f27 fI Nn : Addr} (X : K.In h) (G : h.Ns mainGlobals mg) (hfa : mg "law" = some (.ref fa))
    {oc0 kV0 dc0 pm0 cd0 ct0 : Value} {od0 an0 : Option Addr} {sl0 : Array (Option Value)}
    {oc1 kV1 dc1 pm1 cd1 ct1 : Value} {od1 an1 : Option Addr} {sl1 : Array (Option Value)}
    {oc2 kV2 dc2 pm2 cd2 ct2 : Value} {od2 an2 : Option Addr} {sl2 : Array (Option Value)}
    {oc3 kV3 dc3 pm3 cd3 ct3 : Value} {od3 an3 : Option Addr} {sl3 : Array (Option Value)}
    {oc4 kV4 dc4 pm4 cd4 ct4 : Value} {od4 an4 : Option Addr} {sl4 : Array (Option Value)}
    {oc5 kV5 dc5 pm5 cd5 ct5 : Value} {od5 an5 : Option Addr} {sl5 : Array (Option Value)}
    {oc6 kV6 dc6 pm6 cd6 ct6 : Value} {od6 an6 : Option Addr} {sl6 : Array (Option Value)}
    {oc7 kV7 dc7 pm7 cd7 ct7 : Value} {od7 an7 : Option Addr} {sl7 : Array (Option Value)}
    {oc8 kV8 dc8 pm8 cd8 ct8 : Value} {od8 an8 : Option Addr} {sl8 : Array (Option Value)}
    {oc9 kV9 dc9 pm9 cd9 ct9 : Value} {od9 an9 : Option Addr} {sl9 : Array (Option Value)}
    {oc10 kV10 dc10 pm10 cd10 ct10 : Value} {od10 an10 : Option Addr} {sl10 : Array (Option Value)}
    {oc11 kV11 dc11 pm11 cd11 ct11 : Value} {od11 an11 : Option Addr} {sl11 : Array (Option Value)}
    {oc12 kV12 dc12 pm12 cd12 ct12 : Value} {od12 an12 : Option Addr} {sl12 : Array (Option Value)}
    {oc13 kV13 dc13 pm13 cd13 ct13 : Value} {od13 an13 : Option Addr} {sl13 : Array (Option Value)}
    {oc14 kV14 dc14 pm14 cd14 ct14 : Value} {od14 an14 : Option Addr} {sl14 : Array (Option Value)}
    {oc15 kV15 dc15 pm15 cd15 ct15 : Value} {od15 an15 : Option Addr} {sl15 : Array (Option Value)}
    {oc16 kV16 dc16 pm16 cd16 ct16 : Value} {od16 an16 : Option Addr} {sl16 : Array (Option Value)}
    {oc17 kV17 dc17 pm17 cd17 ct17 : Value} {od17 an17 : Option Addr} {sl17 : Array (Option Value)}
    {oc18 kV18 dc18 pm18 cd18 ct18 : Value} {od18 an18 : Option Addr} {sl18 : Array (Option Value)}
    {oc19 kV19 dc19 pm19 cd19 ct19 : Value} {od19 an19 : Option Addr} {sl19 : Array (Option Value)}
    {oc20 kV20 dc20 pm20 cd20 ct20 : Value} {od20 an20 : Option Addr} {sl20 : Array (Option Value)}
    {oc21 kV21 dc21 pm21 cd21 ct21 : Value} {od21 an21 : Option Addr} {sl21 : Array (Option Value)}
    {oc22 kV22 dc22 pm22 cd22 ct22 : Value} {od22 an22 : Option Addr} {sl22 : Array (Option Value)}
    {oc23 kV23 dc23 pm23 cd23 ct23 : Value} {od23 an23 : Option Addr} {sl23 : Array (Option Value)}
    {oc24 kV24 dc24 pm24 cd24 ct24 : Value} {od24 an24 : Option Addr} {sl24 : Array (Option Value)}
    {oc25 kV25 dc25 pm25 cd25 ct25 : Value} {od25 an25 : Option Addr} {sl25 : Array (Option Value)}
    {oc26 kV26 dc26 pm26 cd26 ct26 : Value} {od26 an26 : Option Addr} {sl26 : Array (Option Value)}
    {oc27 kV27 dc27 pm27 cd27 ct27 : Value} {od27 an27 : Option Addr} {sl27 : Array (Option Value)}
    {nm qn : Str} {bs : List Value} {sn : List Str} {sub : List Value} {ab : Bool} {col : Option Bool} {dd : Option Addr} {m0 m1 m2 m3 m5 : Option Value} {ocI kVI dcI pmI cdI ctI : Value} {odI anI : Option Addr} {slI : Array (Option Value)}
    (aCR : PySem.W.nsIn K mainGlobals "RowError" = some (some (.ref CR)))
    (aCN : PySem.W.nsIn K mainGlobals "NoNumber" = some (some (.ref CN)))
    (aCU : PySem.W.nsIn K mainGlobals "NoRule" = some (some (.ref CU)))
    (a0 : PySem.W.nsIn K mainGlobals "_law_deck" = some (some (.ref f0)))
    (l0 : K.lookup f0 = some ⟨oc0, od0, .func (PySem.W.fnOf "_law_deck" "_law_deck" (defArgs s_deck) (defBody s_deck) (defScope s_deck) .none kV0 dc0 pm0 an0 cd0 ct0), sl0⟩)
    (c0 : PySem.W.codeIn K cd0 "_law_deck" = true)
    (k0 : PySem.W.keepIn K (.ref f0) = true)
    (a1 : PySem.W.nsIn K mainGlobals "_law_draw" = some (some (.ref f1)))
    (l1 : K.lookup f1 = some ⟨oc1, od1, .func (PySem.W.fnOf "_law_draw" "_law_draw" (defArgs s_draw) (defBody s_draw) (defScope s_draw) .none kV1 dc1 pm1 an1 cd1 ct1), sl1⟩)
    (c1 : PySem.W.codeIn K cd1 "_law_draw" = true)
    (k1 : PySem.W.keepIn K (.ref f1) = true)
    (a2 : PySem.W.nsIn K mainGlobals "_law_below" = some (some (.ref f2)))
    (l2 : K.lookup f2 = some ⟨oc2, od2, .func (PySem.W.fnOf "_law_below" "_law_below" (defArgs s_below) (defBody s_below) (defScope s_below) .none kV2 dc2 pm2 an2 cd2 ct2), sl2⟩)
    (c2 : PySem.W.codeIn K cd2 "_law_below" = true)
    (k2 : PySem.W.keepIn K (.ref f2) = true)
    (a3 : PySem.W.nsIn K mainGlobals "_law_rule" = some (some (.ref f3)))
    (l3 : K.lookup f3 = some ⟨oc3, od3, .func (PySem.W.fnOf "_law_rule" "_law_rule" (defArgs s_rule) (defBody s_rule) (defScope s_rule) .none kV3 dc3 pm3 an3 cd3 ct3), sl3⟩)
    (c3 : PySem.W.codeIn K cd3 "_law_rule" = true)
    (k3 : PySem.W.keepIn K (.ref f3) = true)
    (a4 : PySem.W.nsIn K mainGlobals "_law_beside" = some (some (.ref f4)))
    (l4 : K.lookup f4 = some ⟨oc4, od4, .func (PySem.W.fnOf "_law_beside" "_law_beside" (defArgs s_beside) (defBody s_beside) (defScope s_beside) .none kV4 dc4 pm4 an4 cd4 ct4), sl4⟩)
    (c4 : PySem.W.codeIn K cd4 "_law_beside" = true)
    (k4 : PySem.W.keepIn K (.ref f4) = true)
    (a5 : PySem.W.nsIn K mainGlobals "_law_woven_right" = some (some (.ref f5)))
    (l5 : K.lookup f5 = some ⟨oc5, od5, .func (PySem.W.fnOf "_law_woven_right" "_law_woven_right" (defArgs s_woven_right) (defBody s_woven_right) (defScope s_woven_right) .none kV5 dc5 pm5 an5 cd5 ct5), sl5⟩)
    (c5 : PySem.W.codeIn K cd5 "_law_woven_right" = true)
    (k5 : PySem.W.keepIn K (.ref f5) = true)
    (a6 : PySem.W.nsIn K mainGlobals "_law_sums_right" = some (some (.ref f6)))
    (l6 : K.lookup f6 = some ⟨oc6, od6, .func (PySem.W.fnOf "_law_sums_right" "_law_sums_right" (defArgs s_sums_right) (defBody s_sums_right) (defScope s_sums_right) .none kV6 dc6 pm6 an6 cd6 ct6), sl6⟩)
    (c6 : PySem.W.codeIn K cd6 "_law_sums_right" = true)
    (k6 : PySem.W.keepIn K (.ref f6) = true)
    (a7 : PySem.W.nsIn K mainGlobals "_law_rounds_right" = some (some (.ref f7)))
    (l7 : K.lookup f7 = some ⟨oc7, od7, .func (PySem.W.fnOf "_law_rounds_right" "_law_rounds_right" (defArgs s_rounds_right) (defBody s_rounds_right) (defScope s_rounds_right) .none kV7 dc7 pm7 an7 cd7 ct7), sl7⟩)
    (c7 : PySem.W.codeIn K cd7 "_law_rounds_right" = true)
    (k7 : PySem.W.keepIn K (.ref f7) = true)
    (a8 : PySem.W.nsIn K mainGlobals "is_whole" = some (some (.ref f8)))
    (l8 : K.lookup f8 = some ⟨oc8, od8, .func (PySem.W.fnOf "is_whole" "is_whole" (defArgs s_is_whole) (defBody s_is_whole) (defScope s_is_whole) .none kV8 dc8 pm8 an8 cd8 ct8), sl8⟩)
    (c8 : PySem.W.codeIn K cd8 "is_whole" = true)
    (k8 : PySem.W.keepIn K (.ref f8) = true)
    (a9 : PySem.W.nsIn K mainGlobals "is_number" = some (some (.ref f9)))
    (l9 : K.lookup f9 = some ⟨oc9, od9, .func (PySem.W.fnOf "is_number" "is_number" (defArgs s_is_number) (defBody s_is_number) (defScope s_is_number) .none kV9 dc9 pm9 an9 cd9 ct9), sl9⟩)
    (c9 : PySem.W.codeIn K cd9 "is_number" = true)
    (k9 : PySem.W.keepIn K (.ref f9) = true)
    (a10 : PySem.W.nsIn K mainGlobals "check_number" = some (some (.ref f10)))
    (l10 : K.lookup f10 = some ⟨oc10, od10, .func (PySem.W.fnOf "check_number" "check_number" (defArgs s_check_number) (defBody s_check_number) (defScope s_check_number) .none kV10 dc10 pm10 an10 cd10 ct10), sl10⟩)
    (c10 : PySem.W.codeIn K cd10 "check_number" = true)
    (k10 : PySem.W.keepIn K (.ref f10) = true)
    (a11 : PySem.W.nsIn K mainGlobals "common_divisor" = some (some (.ref f11)))
    (l11 : K.lookup f11 = some ⟨oc11, od11, .func (PySem.W.fnOf "common_divisor" "common_divisor" (defArgs s_common_divisor) (defBody s_common_divisor) (defScope s_common_divisor) .none kV11 dc11 pm11 an11 cd11 ct11), sl11⟩)
    (c11 : PySem.W.codeIn K cd11 "common_divisor" = true)
    (k11 : PySem.W.keepIn K (.ref f11) = true)
    (a12 : PySem.W.nsIn K mainGlobals "inverse" = some (some (.ref f12)))
    (l12 : K.lookup f12 = some ⟨oc12, od12, .func (PySem.W.fnOf "inverse" "inverse" (defArgs s_inverse) (defBody s_inverse) (defScope s_inverse) .none kV12 dc12 pm12 an12 cd12 ct12), sl12⟩)
    (c12 : PySem.W.codeIn K cd12 "inverse" = true)
    (k12 : PySem.W.keepIn K (.ref f12) = true)
    (a13 : PySem.W.nsIn K mainGlobals "before" = some (some (.ref f13)))
    (l13 : K.lookup f13 = some ⟨oc13, od13, .func (PySem.W.fnOf "before" "before" (defArgs s_before) (defBody s_before) (defScope s_before) .none kV13 dc13 pm13 an13 cd13 ct13), sl13⟩)
    (c13 : PySem.W.codeIn K cd13 "before" = true)
    (k13 : PySem.W.keepIn K (.ref f13) = true)
    (a14 : PySem.W.nsIn K mainGlobals "gaps_of" = some (some (.ref f14)))
    (l14 : K.lookup f14 = some ⟨oc14, od14, .func (PySem.W.fnOf "gaps_of" "gaps_of" (defArgs s_gaps_of) (defBody s_gaps_of) (defScope s_gaps_of) .none kV14 dc14 pm14 an14 cd14 ct14), sl14⟩)
    (c14 : PySem.W.codeIn K cd14 "gaps_of" = true)
    (k14 : PySem.W.keepIn K (.ref f14) = true)
    (a15 : PySem.W.nsIn K mainGlobals "narrowed" = some (some (.ref f15)))
    (l15 : K.lookup f15 = some ⟨oc15, od15, .func (PySem.W.fnOf "narrowed" "narrowed" (defArgs s_narrowed) (defBody s_narrowed) (defScope s_narrowed) .none kV15 dc15 pm15 an15 cd15 ct15), sl15⟩)
    (c15 : PySem.W.codeIn K cd15 "narrowed" = true)
    (k15 : PySem.W.keepIn K (.ref f15) = true)
    (a16 : PySem.W.nsIn K mainGlobals "fits_on_the_way" = some (some (.ref f16)))
    (l16 : K.lookup f16 = some ⟨oc16, od16, .func (PySem.W.fnOf "fits_on_the_way" "fits_on_the_way" (defArgs s_fits_on_the_way) (defBody s_fits_on_the_way) (defScope s_fits_on_the_way) .none kV16 dc16 pm16 an16 cd16 ct16), sl16⟩)
    (c16 : PySem.W.codeIn K cd16 "fits_on_the_way" = true)
    (k16 : PySem.W.keepIn K (.ref f16) = true)
    (a17 : PySem.W.nsIn K mainGlobals "times_that_fit" = some (some (.ref f17)))
    (l17 : K.lookup f17 = some ⟨oc17, od17, .func (PySem.W.fnOf "times_that_fit" "times_that_fit" (defArgs s_times_that_fit) (defBody s_times_that_fit) (defScope s_times_that_fit) .none kV17 dc17 pm17 an17 cd17 ct17), sl17⟩)
    (c17 : PySem.W.codeIn K cd17 "times_that_fit" = true)
    (k17 : PySem.W.keepIn K (.ref f17) = true)
    (a18 : PySem.W.nsIn K mainGlobals "next_of" = some (some (.ref f18)))
    (l18 : K.lookup f18 = some ⟨oc18, od18, .func (PySem.W.fnOf "next_of" "next_of" (defArgs s_next_of) (defBody s_next_of) (defScope s_next_of) .none kV18 dc18 pm18 an18 cd18 ct18), sl18⟩)
    (c18 : PySem.W.codeIn K cd18 "next_of" = true)
    (k18 : PySem.W.keepIn K (.ref f18) = true)
    (a19 : PySem.W.nsIn K mainGlobals "row_from" = some (some (.ref f19)))
    (l19 : K.lookup f19 = some ⟨oc19, od19, .func (PySem.W.fnOf "row_from" "row_from" (defArgs s_row_from) (defBody s_row_from) (defScope s_row_from) .none kV19 dc19 pm19 an19 cd19 ct19), sl19⟩)
    (c19 : PySem.W.codeIn K cd19 "row_from" = true)
    (k19 : PySem.W.keepIn K (.ref f19) = true)
    (a20 : PySem.W.nsIn K mainGlobals "woven" = some (some (.ref f20)))
    (l20 : K.lookup f20 = some ⟨oc20, od20, .func (PySem.W.fnOf "woven" "woven" (defArgs s_woven) (defBody s_woven) (defScope s_woven) .none kV20 dc20 pm20 an20 cd20 ct20), sl20⟩)
    (c20 : PySem.W.codeIn K cd20 "woven" = true)
    (k20 : PySem.W.keepIn K (.ref f20) = true)
    (a21 : PySem.W.nsIn K mainGlobals "unwoven" = some (some (.ref f21)))
    (l21 : K.lookup f21 = some ⟨oc21, od21, .func (PySem.W.fnOf "unwoven" "unwoven" (defArgs s_unwoven) (defBody s_unwoven) (defScope s_unwoven) .none kV21 dc21 pm21 an21 cd21 ct21), sl21⟩)
    (c21 : PySem.W.codeIn K cd21 "unwoven" = true)
    (k21 : PySem.W.keepIn K (.ref f21) = true)
    (a22 : PySem.W.nsIn K mainGlobals "walked_on" = some (some (.ref f22)))
    (l22 : K.lookup f22 = some ⟨oc22, od22, .func (PySem.W.fnOf "walked_on" "walked_on" (defArgs s_walked_on) (defBody s_walked_on) (defScope s_walked_on) .none kV22 dc22 pm22 an22 cd22 ct22), sl22⟩)
    (c22 : PySem.W.codeIn K cd22 "walked_on" = true)
    (k22 : PySem.W.keepIn K (.ref f22) = true)
    (a23 : PySem.W.nsIn K mainGlobals "round_from" = some (some (.ref f23)))
    (l23 : K.lookup f23 = some ⟨oc23, od23, .func (PySem.W.fnOf "round_from" "round_from" (defArgs s_round_from) (defBody s_round_from) (defScope s_round_from) .none kV23 dc23 pm23 an23 cd23 ct23), sl23⟩)
    (c23 : PySem.W.codeIn K cd23 "round_from" = true)
    (k23 : PySem.W.keepIn K (.ref f23) = true)
    (a24 : PySem.W.nsIn K mainGlobals "check_two" = some (some (.ref f24)))
    (l24 : K.lookup f24 = some ⟨oc24, od24, .func (PySem.W.fnOf "check_two" "check_two" (defArgs s_check_two) (defBody s_check_two) (defScope s_check_two) .none kV24 dc24 pm24 an24 cd24 ct24), sl24⟩)
    (c24 : PySem.W.codeIn K cd24 "check_two" = true)
    (k24 : PySem.W.keepIn K (.ref f24) = true)
    (a25 : PySem.W.nsIn K mainGlobals "summed_by" = some (some (.ref f25)))
    (l25 : K.lookup f25 = some ⟨oc25, od25, .func (PySem.W.fnOf "summed_by" "summed_by" (defArgs s_summed_by) (defBody s_summed_by) (defScope s_summed_by) .none kV25 dc25 pm25 an25 cd25 ct25), sl25⟩)
    (c25 : PySem.W.codeIn K cd25 "summed_by" = true)
    (k25 : PySem.W.keepIn K (.ref f25) = true)
    (a26 : PySem.W.nsIn K mainGlobals "round_of_two" = some (some (.ref f26)))
    (l26 : K.lookup f26 = some ⟨oc26, od26, .func (PySem.W.fnOf "round_of_two" "round_of_two" (defArgs s_round_of_two) (defBody s_round_of_two) (defScope s_round_of_two) .none kV26 dc26 pm26 an26 cd26 ct26), sl26⟩)
    (c26 : PySem.W.codeIn K cd26 "round_of_two" = true)
    (k26 : PySem.W.keepIn K (.ref f26) = true)
    (a27 : PySem.W.nsIn K mainGlobals "law" = some (some (.ref f27)))
    (l27 : K.lookup f27 = some ⟨oc27, od27, .func (PySem.W.fnOf "law" "law" (defArgs s_law) (defBody s_law) (defScope s_law) .none kV27 dc27 pm27 an27 cd27 ct27), sl27⟩)
    (c27 : PySem.W.codeIn K cd27 "law" = true)
    (k27 : PySem.W.keepIn K (.ref f27) = true)
    (y_max : PySem.W.nsIn K mainGlobals "max" = some none)
    (y_abs : PySem.W.nsIn K mainGlobals "abs" = some none)
    (y_zip : PySem.W.nsIn K mainGlobals "zip" = some none)
    (y_sum : PySem.W.nsIn K mainGlobals "sum" = some none)
    (y_len : PySem.W.nsIn K mainGlobals "len" = some none)
    (y_range : PySem.W.nsIn K mainGlobals "range" = some none)
    (y_isinstance : PySem.W.nsIn K mainGlobals "isinstance" = some none)
    (y_int : PySem.W.nsIn K mainGlobals "int" = some none)
    (y_bool : PySem.W.nsIn K mainGlobals "bool" = some none)
    (y_tuple : PySem.W.nsIn K mainGlobals "tuple" = some none)
    (y_enumerate : PySem.W.nsIn K mainGlobals "enumerate" = some none)
    (xCNhc : PySem.W.isClsIn K CN = true)
    (xCNhg : PySem.W.findIn K (.ref CN) "__getattribute__" = some (some (.builtin "BaseException.__getattribute__")))
    (xCNhk : PySem.W.findIn K (.ref CN) "__getattr__" = some none)
    (xCNhs : PySem.W.subIn K (.ref CN) (.type "BaseException") = some true)
    (xCNhd : PySem.W.hasDictIn K CN = true)
    (xCNha : PySem.W.findIn K (.ref CN) "__class__" = some (some (.builtin "object.__class__")))
    (xCNhm : PySem.W.mroIn K CN (.type "object") = some true)
    (gn : PySem.W.specialIn K (.builtin "object.__class__") "__get__" = some (some (.builtin "getset_descriptor.__get__")))
    (gt : PySem.W.takesIn K (.builtin "object.__class__") = some true)
    (xCNkr : PySem.W.kitOne K (.ref CN) (.ref CR) = some true)
    (xCNkv : PySem.W.kitOne K (.ref CN) (.type "ValueError") = some true)
    (xCNkCN : PySem.W.kitOne K (.ref CN) (.ref CN) = some true)
    (xCNkCU : PySem.W.kitOne K (.ref CN) (.ref CU) = some false)
    (xCNxm : PySem.W.exmOne K (.ref CN) (.ref CR) = some true)
    (xL : K.lookup CN = some (excClassObj nm qn CN Nn bs [.ref CR, .type "ValueError", .type "Exception", .type "BaseException", .type "object"] true sn sub ab col dd m0 m1 m2 m3 m5 "ValueError.__new__"))
    (sa : PySem.W.findIn K (.ref CN) "__setattr__" = some (some (.builtin "object.__setattr__")))
    (tyC : PySem.W.typeIn K (.ref CN) = some (.type "type"))
    (kC : PySem.W.keepIn K (.ref CN) = true)
    (nf : PySem.W.findIn K (.ref CN) "number" = some none)
    (iI : PySem.W.findIn K (.ref CN) "__init__" = some (some (.ref fI)))
    (tI : PySem.W.typeIn K (.ref fI) = some (.type "function"))
    (lI : K.lookup fI = some ⟨ocI, odI, .func (PySem.W.fnOf "__init__" "NoNumber.__init__" (defArgs s_init) (defBody s_init) (defScope s_init) .none kVI dcI pmI anI cdI ctI), slI⟩)
    (cI : PySem.W.codeIn K cdI "NoNumber.__init__" = true)
    (kI : PySem.W.keepIn K (.ref fI) = true)
    (rd : PySem.W.readsIn K CR (.type "type") = true)
    (rg : PySem.W.specialIn K (.ref CR) "__getattribute__" = some (some (.builtin "type.__getattribute__")))
    (ri : PySem.W.findCls K (.ref CR) (.type "type") "__init__" = some (.val (.builtin "ValueError.__init__")))
    (xCUhc : PySem.W.isClsIn K CU = true)
    (xCUhg : PySem.W.findIn K (.ref CU) "__getattribute__" = some (some (.builtin "BaseException.__getattribute__")))
    (xCUhk : PySem.W.findIn K (.ref CU) "__getattr__" = some none)
    (xCUhs : PySem.W.subIn K (.ref CU) (.type "BaseException") = some true)
    (xCUhd : PySem.W.hasDictIn K CU = true)
    (xCUha : PySem.W.findIn K (.ref CU) "__class__" = some (some (.builtin "object.__class__")))
    (xCUhm : PySem.W.mroIn K CU (.type "object") = some true)
    (xCUkr : PySem.W.kitOne K (.ref CU) (.ref CR) = some true)
    (xCUkv : PySem.W.kitOne K (.ref CU) (.type "ValueError") = some true)
    (xCUkCN : PySem.W.kitOne K (.ref CU) (.ref CN) = some false)
    (xCUkCU : PySem.W.kitOne K (.ref CU) (.ref CU) = some true)
    (xCUxm : PySem.W.exmOne K (.ref CU) (.ref CR) = some true)
    (wCUx : PySem.W.excIn K CU [.type "ValueError", .type "Exception", .type "BaseException", .type "object"] "ValueError.__new__" = true)
    (wCUk : PySem.W.keepIn K (.ref CU) = true)
    (wCUy : PySem.W.typeIn K (.ref CU) = some (.type "type")) :
    ∃ fd : FuncData, (∀ (s : Shared) (v : Value), BindsTo s fd ⟨[v], []⟩ [("script", v)]) ∧ ∀ base : Heap, K.In base → base.Ns mainGlobals mg → FnOk l.prog w K mg base CX0 10 fa fd ["script"] (spLaw K) := by
  have e := hfa.symm.trans (PySem.W.mg_of X G a27)
  cases e
  have T_deck : Top K mg "_law_deck" s_deck ["script"] := top_mk X G a0 l0 c0 k0 fun _ _ _ _ _ _ us hl => match us, hl with | [_], _ => rfl
  have T_draw : Top K mg "_law_draw" s_draw ["deck", "most"] := top_mk X G a1 l1 c1 k1 fun _ _ _ _ _ _ us hl => match us, hl with | [_, _], _ => rfl
  have T_below : Top K mg "_law_below" s_below ["deck", "most"] := top_mk X G a2 l2 c2 k2 fun _ _ _ _ _ _ us hl => match us, hl with | [_, _], _ => rfl
  have T_rule : Top K mg "_law_rule" s_rule ["deck", "most"] := top_mk X G a3 l3 c3 k3 fun _ _ _ _ _ _ us hl => match us, hl with | [_, _], _ => rfl
  have T_beside : Top K mg "_law_beside" s_beside ["deck", "rule"] := top_mk X G a4 l4 c4 k4 fun _ _ _ _ _ _ us hl => match us, hl with | [_, _], _ => rfl
  have T_woven_right : Top K mg "_law_woven_right" s_woven_right ["one", "start", "other", "begin"] := top_mk X G a5 l5 c5 k5 fun _ _ _ _ _ _ us hl => match us, hl with | [_, _, _, _], _ => rfl
  have T_sums_right : Top K mg "_law_sums_right" s_sums_right ["one", "start", "other", "begin"] := top_mk X G a6 l6 c6 k6 fun _ _ _ _ _ _ us hl => match us, hl with | [_, _, _, _], _ => rfl
  have T_rounds_right : Top K mg "_law_rounds_right" s_rounds_right ["one", "start", "other", "begin"] := top_mk X G a7 l7 c7 k7 fun _ _ _ _ _ _ us hl => match us, hl with | [_, _, _, _], _ => rfl
  have T_is_whole : Top K mg "is_whole" s_is_whole ["thing"] := top_mk X G a8 l8 c8 k8 fun _ _ _ _ _ _ us hl => match us, hl with | [_], _ => rfl
  have T_is_number : Top K mg "is_number" s_is_number ["thing", "bound"] := top_mk X G a9 l9 c9 k9 fun _ _ _ _ _ _ us hl => match us, hl with | [_, _], _ => rfl
  have T_check_number : Top K mg "check_number" s_check_number ["number", "bound"] := top_mk X G a10 l10 c10 k10 fun _ _ _ _ _ _ us hl => match us, hl with | [_, _], _ => rfl
  have T_common_divisor : Top K mg "common_divisor" s_common_divisor ["one", "other"] := top_mk X G a11 l11 c11 k11 fun _ _ _ _ _ _ us hl => match us, hl with | [_, _], _ => rfl
  have T_inverse : Top K mg "inverse" s_inverse ["number", "bound"] := top_mk X G a12 l12 c12 k12 fun _ _ _ _ _ _ us hl => match us, hl with | [_, _], _ => rfl
  have T_before : Top K mg "before" s_before ["rule", "number"] := top_mk X G a13 l13 c13 k13 fun _ _ _ _ _ _ us hl => match us, hl with | [_, _], _ => rfl
  have T_gaps_of : Top K mg "gaps_of" s_gaps_of ["row"] := top_mk X G a14 l14 c14 k14 fun _ _ _ _ _ _ us hl => match us, hl with | [_], _ => rfl
  have T_narrowed : Top K mg "narrowed" s_narrowed ["fit", "gap", "later", "bound"] := top_mk X G a15 l15 c15 k15 fun _ _ _ _ _ _ us hl => match us, hl with | [_, _, _, _], _ => rfl
  have T_fits_on_the_way : Top K mg "fits_on_the_way" s_fits_on_the_way ["row", "bound"] := top_mk X G a16 l16 c16 k16 fun _ _ _ _ _ _ us hl => match us, hl with | [_, _], _ => rfl
  have T_times_that_fit : Top K mg "times_that_fit" s_times_that_fit ["row", "bound"] := top_mk X G a17 l17 c17 k17 fun _ _ _ _ _ _ us hl => match us, hl with | [_, _], _ => rfl
  have T_next_of : Top K mg "next_of" s_next_of ["rule", "number"] := top_mk X G a18 l18 c18 k18 fun _ _ _ _ _ _ us hl => match us, hl with | [_, _], _ => rfl
  have T_row_from : Top K mg "row_from" s_row_from ["rule", "start", "many"] := top_mk X G a19 l19 c19 k19 fun _ _ _ _ _ _ us hl => match us, hl with | [_, _, _], _ => rfl
  have T_woven : Top K mg "woven" s_woven ["one", "start", "other", "begin", "many"] := top_mk X G a20 l20 c20 k20 fun _ _ _ _ _ _ us hl => match us, hl with | [_, _, _, _, _], _ => rfl
  have T_unwoven : Top K mg "unwoven" s_unwoven ["row", "bound", "other_bound"] := top_mk X G a21 l21 c21 k21 fun _ _ _ _ _ _ us hl => match us, hl with | [_, _, _], _ => rfl
  have T_walked_on : Top K mg "walked_on" s_walked_on ["rule", "start", "places"] := top_mk X G a22 l22 c22 k22 fun _ _ _ _ _ _ us hl => match us, hl with | [_, _, _], _ => rfl
  have T_round_from : Top K mg "round_from" s_round_from ["rule", "start"] := top_mk X G a23 l23 c23 k23 fun _ _ _ _ _ _ us hl => match us, hl with | [_, _], _ => rfl
  have T_check_two : Top K mg "check_two" s_check_two ["one", "start", "other", "begin"] := top_mk X G a24 l24 c24 k24 fun _ _ _ _ _ _ us hl => match us, hl with | [_, _, _, _], _ => rfl
  have T_summed_by : Top K mg "summed_by" s_summed_by ["one", "start", "other", "begin"] := top_mk X G a25 l25 c25 k25 fun _ _ _ _ _ _ us hl => match us, hl with | [_, _, _, _], _ => rfl
  have T_round_of_two : Top K mg "round_of_two" s_round_of_two ["one", "start", "other", "begin"] := top_mk X G a26 l26 c26 k26 fun _ _ _ _ _ _ us hl => match us, hl with | [_, _, _, _], _ => rfl
  have T_law : Top K mg "law" s_law ["script"] := top_mk X G a27 l27 c27 k27 fun _ _ _ _ _ _ us hl => match us, hl with | [_], _ => rfl
  have z_max := PySem.W.mg_none_of X G y_max
  have z_abs := PySem.W.mg_none_of X G y_abs
  have z_zip := PySem.W.mg_none_of X G y_zip
  have z_sum := PySem.W.mg_none_of X G y_sum
  have z_len := PySem.W.mg_none_of X G y_len
  have z_range := PySem.W.mg_none_of X G y_range
  have z_isinstance := PySem.W.mg_none_of X G y_isinstance
  have z_int := PySem.W.mg_none_of X G y_int
  have z_bool := PySem.W.mg_none_of X G y_bool
  have z_tuple := PySem.W.mg_none_of X G y_tuple
  have z_enumerate := PySem.W.mg_none_of X G y_enumerate
  have G_CR := PySem.W.mg_of X G aCR
  have G_CN := PySem.W.mg_of X G aCN
  have G_CU := PySem.W.mg_of X G aCU
  have ox : OexC K CN := ⟨⟨nm, qn, Nn, bs, _, sn, sub, ab, col, dd, m0, m1, m2, m3, m5, xL, rfl⟩, sa, xCNhs, tyC, kC⟩
  have FI := fun_mk (x := "__init__") (qual := "NoNumber.__init__") (st := s_init) lI cI kI
  have bI := FI.binds (ps := ["self", "number"]) fun _ _ _ _ _ _ us hl => match us, hl with | [_, _], _ => rfl
  have RI : ClX.CRead K CR (.type "type") := ⟨rd, rg⟩
  refine ⟨PySem.W.fnOf "law" "law" (defArgs s_law) (defBody s_law) (defScope s_law) .none kV27 dc27 pm27 an27 cd27 ct27, fun s v => .of_eq rfl, fun base _ _ => ?_⟩
  have FL := fun_mk (st := s_law) l27 c27 k27

  have o_draw := ok_draw (P := l.prog) (w := w) (base := base) T_draw
  have o_below := ok_below T_below o_draw
  have o_rule := ok_rule T_rule o_draw o_below z_max
  have o_whole := ok_is_whole (P := l.prog) (w := w) (base := base) T_is_whole z_isinstance z_int z_bool
  have o_check := ok_check_number T_check_number (ok_is_number T_is_number o_whole) ox iI tI (ok_init FI G_CR RI ri) bI G_CN nf
  have o_gcd := ok_common_divisor (P := l.prog) (w := w) (base := base) T_common_divisor
  have o_bef := ok_before T_before o_check o_gcd (ok_inverse T_inverse)
  have o_fits := ok_fits_on_the_way T_fits_on_the_way o_check (ok_gaps_of T_gaps_of z_zip) (ok_narrowed T_narrowed o_bef) z_zip
  have o_times := ok_times_that_fit T_times_that_fit o_fits
  have o_unw := ok_unwoven T_unwoven o_check o_times z_enumerate
  have o_next := ok_next_of T_next_of o_check
  have o_rf := ok_row_from T_row_from o_check o_next z_range z_tuple
  have o_w := ok_woven T_woven o_rf z_zip z_tuple
  have o_walk := ok_walked_on T_walked_on o_next z_len
  have o_round := ok_round_from T_round_from o_check o_walk z_len
  have o_two := ok_check_two T_check_two o_check wCUx G_CU wCUk xCUhs wCUy
  have o_sum := ok_summed_by T_summed_by o_two
  have o_rnd := ok_round_of_two T_round_of_two o_two o_round o_gcd z_max
  exact ok_law FL (ok_deck T_deck z_len z_abs) o_draw o_rule (ok_beside T_beside o_draw o_below) (ok_woven_right T_woven_right o_w o_rf o_unw o_times z_zip) (ok_sums_right T_sums_right o_rf o_sum z_zip z_sum z_range) (ok_rounds_right T_rounds_right o_round o_rnd z_max) z_range
end Tw
open PySem PySem.W PyProof.Rows
set_option maxHeartbeats 0 in
theorem PySem.Challenge.cw_timesrow_k27_whole_two_rows_holds : PySem.Challenge.rw_timesrow_k27_whole_two_rows.Holds := by
  w_on; o_law; k_head; (case hw => w_witness2)
  k_fill
  refine L2.walk_ofB (l := PySem.Challenge.rw_timesrow_k27_whole_two_rows) (n := 63) (k := 10) (x := "script") (CX := fun _ => L2.CX0) (sp := fun w => Tw.spLaw _) rfl (by decide) rfl ⟨rfl, by decide, by decide⟩ (fun w h Y => PySem.W.kIn_of Y) ?F (fun _ _ a ns hl hb _ hS => ⟨_, rfl, a, ns, rfl, hS, hl, hb, fun _ => rfl⟩) (fun _ _ _ _ _ h => h)
  case F =>
    intro w mg fa h KX G hmg
    refine' Tw.all_mk KX G hmg ?aCR ?aCN ?aCU ?a0 ?l0 ?c0 ?k0 ?a1 ?l1 ?c1 ?k1 ?a2 ?l2 ?c2 ?k2 ?a3 ?l3 ?c3 ?k3 ?a4 ?l4 ?c4 ?k4 ?a5 ?l5 ?c5 ?k5 ?a6 ?l6 ?c6 ?k6 ?a7 ?l7 ?c7 ?k7 ?a8 ?l8 ?c8 ?k8 ?a9 ?l9 ?c9 ?k9 ?a10 ?l10 ?c10 ?k10 ?a11 ?l11 ?c11 ?k11 ?a12 ?l12 ?c12 ?k12 ?a13 ?l13 ?c13 ?k13 ?a14 ?l14 ?c14 ?k14 ?a15 ?l15 ?c15 ?k15 ?a16 ?l16 ?c16 ?k16 ?a17 ?l17 ?c17 ?k17 ?a18 ?l18 ?c18 ?k18 ?a19 ?l19 ?c19 ?k19 ?a20 ?l20 ?c20 ?k20 ?a21 ?l21 ?c21 ?k21 ?a22 ?l22 ?c22 ?k22 ?a23 ?l23 ?c23 ?k23 ?a24 ?l24 ?c24 ?k24 ?a25 ?l25 ?c25 ?k25 ?a26 ?l26 ?c26 ?k26 ?a27 ?l27 ?c27 ?k27 ?y_max ?y_abs ?y_zip ?y_sum ?y_len ?y_range ?y_isinstance ?y_int ?y_bool ?y_tuple ?y_enumerate ?xCNhc ?xCNhg ?xCNhk ?xCNhs ?xCNhd ?xCNha ?xCNhm ?gn ?gt ?xCNkr ?xCNkv ?xCNkCN ?xCNkCU ?xCNxm ?xL ?sa ?tyC ?kC ?nf ?iI ?tI ?lI ?cI ?kI ?rd ?rg ?ri ?xCUhc ?xCUhg ?xCUhk ?xCUhs ?xCUhd ?xCUha ?xCUhm ?xCUkr ?xCUkv ?xCUkCN ?xCUkCU ?xCUxm ?wCUx ?wCUk ?wCUy
    (case aCR => first | k_is | rfl | k_exc)
    (case aCN => first | k_is | rfl | k_exc)
    (case aCU => first | k_is | rfl | k_exc)
    (case a0 => first | k_is | rfl | k_exc)
    (case l0 => first | k_is | rfl | k_exc)
    (case c0 => first | k_is | rfl | k_exc)
    (case k0 => first | k_is | rfl | k_exc)
    (case a1 => first | k_is | rfl | k_exc)
    (case l1 => first | k_is | rfl | k_exc)
    (case c1 => first | k_is | rfl | k_exc)
    (case k1 => first | k_is | rfl | k_exc)
    (case a2 => first | k_is | rfl | k_exc)
    (case l2 => first | k_is | rfl | k_exc)
    (case c2 => first | k_is | rfl | k_exc)
    (case k2 => first | k_is | rfl | k_exc)
    (case a3 => first | k_is | rfl | k_exc)
    (case l3 => first | k_is | rfl | k_exc)
    (case c3 => first | k_is | rfl | k_exc)
    (case k3 => first | k_is | rfl | k_exc)
    (case a4 => first | k_is | rfl | k_exc)
    (case l4 => first | k_is | rfl | k_exc)
    (case c4 => first | k_is | rfl | k_exc)
    (case k4 => first | k_is | rfl | k_exc)
    (case a5 => first | k_is | rfl | k_exc)
    (case l5 => first | k_is | rfl | k_exc)
    (case c5 => first | k_is | rfl | k_exc)
    (case k5 => first | k_is | rfl | k_exc)
    (case a6 => first | k_is | rfl | k_exc)
    (case l6 => first | k_is | rfl | k_exc)
    (case c6 => first | k_is | rfl | k_exc)
    (case k6 => first | k_is | rfl | k_exc)
    (case a7 => first | k_is | rfl | k_exc)
    (case l7 => first | k_is | rfl | k_exc)
    (case c7 => first | k_is | rfl | k_exc)
    (case k7 => first | k_is | rfl | k_exc)
    (case a8 => first | k_is | rfl | k_exc)
    (case l8 => first | k_is | rfl | k_exc)
    (case c8 => first | k_is | rfl | k_exc)
    (case k8 => first | k_is | rfl | k_exc)
    (case a9 => first | k_is | rfl | k_exc)
    (case l9 => first | k_is | rfl | k_exc)
    (case c9 => first | k_is | rfl | k_exc)
    (case k9 => first | k_is | rfl | k_exc)
    (case a10 => first | k_is | rfl | k_exc)
    (case l10 => first | k_is | rfl | k_exc)
    (case c10 => first | k_is | rfl | k_exc)
    (case k10 => first | k_is | rfl | k_exc)
    (case a11 => first | k_is | rfl | k_exc)
    (case l11 => first | k_is | rfl | k_exc)
    (case c11 => first | k_is | rfl | k_exc)
    (case k11 => first | k_is | rfl | k_exc)
    (case a12 => first | k_is | rfl | k_exc)
    (case l12 => first | k_is | rfl | k_exc)
    (case c12 => first | k_is | rfl | k_exc)
    (case k12 => first | k_is | rfl | k_exc)
    (case a13 => first | k_is | rfl | k_exc)
    (case l13 => first | k_is | rfl | k_exc)
    (case c13 => first | k_is | rfl | k_exc)
    (case k13 => first | k_is | rfl | k_exc)
    (case a14 => first | k_is | rfl | k_exc)
    (case l14 => first | k_is | rfl | k_exc)
    (case c14 => first | k_is | rfl | k_exc)
    (case k14 => first | k_is | rfl | k_exc)
    (case a15 => first | k_is | rfl | k_exc)
    (case l15 => first | k_is | rfl | k_exc)
    (case c15 => first | k_is | rfl | k_exc)
    (case k15 => first | k_is | rfl | k_exc)
    (case a16 => first | k_is | rfl | k_exc)
    (case l16 => first | k_is | rfl | k_exc)
    (case c16 => first | k_is | rfl | k_exc)
    (case k16 => first | k_is | rfl | k_exc)
    (case a17 => first | k_is | rfl | k_exc)
    (case l17 => first | k_is | rfl | k_exc)
    (case c17 => first | k_is | rfl | k_exc)
    (case k17 => first | k_is | rfl | k_exc)
    (case a18 => first | k_is | rfl | k_exc)
    (case l18 => first | k_is | rfl | k_exc)
    (case c18 => first | k_is | rfl | k_exc)
    (case k18 => first | k_is | rfl | k_exc)
    (case a19 => first | k_is | rfl | k_exc)
    (case l19 => first | k_is | rfl | k_exc)
    (case c19 => first | k_is | rfl | k_exc)
    (case k19 => first | k_is | rfl | k_exc)
    (case a20 => first | k_is | rfl | k_exc)
    (case l20 => first | k_is | rfl | k_exc)
    (case c20 => first | k_is | rfl | k_exc)
    (case k20 => first | k_is | rfl | k_exc)
    (case a21 => first | k_is | rfl | k_exc)
    (case l21 => first | k_is | rfl | k_exc)
    (case c21 => first | k_is | rfl | k_exc)
    (case k21 => first | k_is | rfl | k_exc)
    (case a22 => first | k_is | rfl | k_exc)
    (case l22 => first | k_is | rfl | k_exc)
    (case c22 => first | k_is | rfl | k_exc)
    (case k22 => first | k_is | rfl | k_exc)
    (case a23 => first | k_is | rfl | k_exc)
    (case l23 => first | k_is | rfl | k_exc)
    (case c23 => first | k_is | rfl | k_exc)
    (case k23 => first | k_is | rfl | k_exc)
    (case a24 => first | k_is | rfl | k_exc)
    (case l24 => first | k_is | rfl | k_exc)
    (case c24 => first | k_is | rfl | k_exc)
    (case k24 => first | k_is | rfl | k_exc)
    (case a25 => first | k_is | rfl | k_exc)
    (case l25 => first | k_is | rfl | k_exc)
    (case c25 => first | k_is | rfl | k_exc)
    (case k25 => first | k_is | rfl | k_exc)
    (case a26 => first | k_is | rfl | k_exc)
    (case l26 => first | k_is | rfl | k_exc)
    (case c26 => first | k_is | rfl | k_exc)
    (case k26 => first | k_is | rfl | k_exc)
    (case a27 => first | k_is | rfl | k_exc)
    (case l27 => first | k_is | rfl | k_exc)
    (case c27 => first | k_is | rfl | k_exc)
    (case k27 => first | k_is | rfl | k_exc)
    (case y_max => first | k_is | rfl | k_exc)
    (case y_abs => first | k_is | rfl | k_exc)
    (case y_zip => first | k_is | rfl | k_exc)
    (case y_sum => first | k_is | rfl | k_exc)
    (case y_len => first | k_is | rfl | k_exc)
    (case y_range => first | k_is | rfl | k_exc)
    (case y_isinstance => first | k_is | rfl | k_exc)
    (case y_int => first | k_is | rfl | k_exc)
    (case y_bool => first | k_is | rfl | k_exc)
    (case y_tuple => first | k_is | rfl | k_exc)
    (case y_enumerate => first | k_is | rfl | k_exc)
    (case xCNhc => first | k_is | rfl | k_exc)
    (case xCNhg => first | k_is | rfl | k_exc)
    (case xCNhk => first | k_is | rfl | k_exc)
    (case xCNhs => first | k_is | rfl | k_exc)
    (case xCNhd => first | k_is | rfl | k_exc)
    (case xCNha => first | k_is | rfl | k_exc)
    (case xCNhm => first | k_is | rfl | k_exc)
    (case gn => first | k_is | rfl | k_exc)
    (case gt => first | k_is | rfl | k_exc)
    (case xCNkr => first | k_is | rfl | k_exc)
    (case xCNkv => first | k_is | rfl | k_exc)
    (case xCNkCN => first | k_is | rfl | k_exc)
    (case xCNkCU => first | k_is | rfl | k_exc)
    (case xCNxm => first | k_is | rfl | k_exc)
    (case xL => first | k_is | rfl | k_exc)
    (case sa => first | k_is | rfl | k_exc)
    (case tyC => first | k_is | rfl | k_exc)
    (case kC => first | k_is | rfl | k_exc)
    (case nf => first | k_is | rfl | k_exc)
    (case iI => first | k_is | rfl | k_exc)
    (case tI => first | k_is | rfl | k_exc)
    (case lI => first | k_is | rfl | k_exc)
    (case cI => first | k_is | rfl | k_exc)
    (case kI => first | k_is | rfl | k_exc)
    (case rd => first | k_is | rfl | k_exc)
    (case rg => first | k_is | rfl | k_exc)
    (case ri => first | k_is | rfl | k_exc)
    (case xCUhc => first | k_is | rfl | k_exc)
    (case xCUhg => first | k_is | rfl | k_exc)
    (case xCUhk => first | k_is | rfl | k_exc)
    (case xCUhs => first | k_is | rfl | k_exc)
    (case xCUhd => first | k_is | rfl | k_exc)
    (case xCUha => first | k_is | rfl | k_exc)
    (case xCUhm => first | k_is | rfl | k_exc)
    (case xCUkr => first | k_is | rfl | k_exc)
    (case xCUkv => first | k_is | rfl | k_exc)
    (case xCUkCN => first | k_is | rfl | k_exc)
    (case xCUkCU => first | k_is | rfl | k_exc)
    (case xCUxm => first | k_is | rfl | k_exc)
    (case wCUx => first | k_is | rfl | k_exc)
    (case wCUk => first | k_is | rfl | k_exc)
    (case wCUy => first | k_is | rfl | k_exc)

