import PyProof.Rows.All
import Wide.All
import OpenK.AllK
import Wide.FinOn
import HandS.ForMost
import HandS.EndBits
import HandS.CallLocal
import HandS.Wide
import HandS.Deep
import PyProof.ReprRoads
import HandS.AnyAll
import HandS.TupAny
import HandS.TupMul
import HandS.Style
import HandS.IsInst
import HandS.Codes
import HandS.Ends
import PyProof.ListStr
import HandS.Star
import HandS.EndTab
import KE.KIsAll
import HandS.Spec
import HandS.WideBits
import HandS.Zip
import HandS.Iter
import HandS.Conv
import HandS.SetFor
import HandS.Strs
import HandS.NoneIn
import HandS.DictComp
import KE.KDictWalk
import PyProof.EqKinds
import KE.KEqDict
import KE.DataEq
import PyProof.StrOps2
import KE.GoesZip
import KE.GoesMore
import HandS.Nested
import PySem.Challenge.RW_everrows_k20_lots
set_option Elab.async false
set_option linter.all false
set_option maxRecDepth 100000
set_option maxHeartbeats 4000000
/-! defs with the guards of texts known to be none: their promise, their body, their call, the law's end -/
namespace DL
open PySem PySem.Spec PyProof.Rows L2

/-- room for calls, and no text of an object is being made -/
structure RmG (k : Nat) (A : Around) : Prop where
  rm : Room k A
  gd : A.guards = some []
theorem RmG.mono {j k : Nat} {A : Around} (r : RmG k A) (h : j ≤ k) : RmG j A := ⟨r.rm.mono h, r.gd⟩

structure FnG (P : Program) (w : World) (K : PySem.W.Frag) (mg : Str → Option Value) (base : Heap) (CX : CXT)
    (k : Nat) (f : Addr) (fd : FuncData) (ps : List Str) (sp : Sp) : Prop where
  len : ∀ vs H Q E, sp vs H Q E → vs.length = ps.length
  run : ∀ (A : Around) (outer : List Env) (s : Shared) (H : Hp) (args : Args) (us : List Value) (vs : List V) (Q : VK) (E : XK),
    RmG k A → Env0 P w K mg base A outer s H → BindsTo s fd args (ps.zip us) → Vals vs us → sp vs H Q E →
      codeAny (model P w) A (.call (.ref f) args) (CR CX outer P w H s Q E) s

section
variable {P : Program} {w : World} {K : PySem.W.Frag} {mg : Str → Option Value} {base : Heap} {CX : CXT}
theorem FnG.mono {j k : Nat} {f : Addr} {fd : FuncData} {ps : List Str} {sp : Sp} (F : FnG P w K mg base CX j f fd ps sp)
    (h : j ≤ k) : FnG P w K mg base CX k f fd ps sp :=
  ⟨F.len, fun A o s H a us vs Q E r => F.run A o s H a us vs Q E (r.mono h)⟩
theorem FnG.imp {k : Nat} {f : Addr} {fd : FuncData} {ps : List Str} {sp sp' : Sp} (F : FnG P w K mg base CX k f fd ps sp)
    (h : ∀ vs H Q E, sp' vs H Q E → sp vs H Q E) : FnG P w K mg base CX k f fd ps sp' :=
  ⟨fun vs H Q E q => F.len vs H Q E (h _ _ _ _ q),
   fun A o s H a us vs Q E hr he hb hv hs => F.run A o s H a us vs Q E hr he hb hv (h _ _ _ _ hs)⟩
theorem FnG.of {k : Nat} {f : Addr} {fd : FuncData} {ps : List Str} {sp : Sp} (F : FnOk P w K mg base CX k f fd ps sp) :
    FnG P w K mg base CX k f fd ps sp := ⟨F.len, fun A o s H a us vs Q E r => F.run A o s H a us vs Q E r.rm⟩

/-- a def by its body -/
theorem fn_bodyC {k : Nat} {x qual : Str} {st : Stmt} {f : Addr} {fd : FuncData} {N ps : List Str} {sp : Sp}
    (F : Fun K x qual st f fd) (S : FnScope N ps (defScope st)) (len : ∀ vs H Q E, sp vs H Q E → vs.length = ps.length)
    (body : ∀ (cdv : Value), fd.code = cdv → ∀ (A : Around) (outer : List Env) (s : Shared) (H : Hp) (vs : List V) (Q : VK) (E : XK),
      RmG k (A.deeper (envOfC qual (defScope st) s.heap.objs.size f cdv)) → sp vs H Q E →
      ∃ t, PSs (cxOf CX P w K mg base N qual (defScope st) f cdv A outer s H E) (defBody st) t ∧
        t { nx := fun _ H' => Q .non H', rt := Q } (start N vs) H) : FnG P w K mg base CX (k + 1) f fd ps sp := by
  obtain ⟨oc, od, kV, doc, pm, an, cdv, ct, osl, rfl, lk, hcd⟩ := F.ex
  constructor
  · exact len
  intro A outer s H args us vs Q E hr e0 hb r hsp
  have hlen := len _ _ _ _ hsp
  have inK : K.In s.heap := e0.mod.kin.keeps fun b o e => (e0.bs b o e).1
  have lim := e0.mod.nolimit.keeps (h' := s.heap) fun b o e => (e0.bs b o e).1
  have kinds : ∀ y ∈ ps.zip us, (defScope st).names.lookup y.1 = some .local ∨
      ((defScope st).names.lookup y.1 = some .cell ∧
        ((cellsFrom (s.heap.objs.size + 1) (defScope st).names []).lookup y.1).isSome = true) := by
    rintro ⟨n, v⟩ hy
    cases S.par n (List.of_mem_zip hy).1 with
    | inl q => exact .inl q
    | inr q => exact .inr ⟨q, PySem.W.cellsFrom_some _ _ _ (.inl q)⟩
  apply codeAny_call_function hr.rm.depth (inK _ _ lk) rfl S.co S.gen rfl (PySem.W.codeRec_of inK hcd)
  apply hb
  apply wpAny_newFunctionEnv_cells S.kind kinds
  intro env he s1 x
  subst he
  refine ⟨lim.keeps x.toInCall.keep, codeAny_func ?_⟩
  obtain ⟨t, ht, hq⟩ := body cdv rfl A outer s H vs Q E ⟨hr.rm.deeper _, hr.gd⟩ hsp
  have I := inv_start (CX := CX) (E := E) S hr.rm.hd e0 hlen r x
  apply wpAny_mono (ht.run [] s1 (start N vs) H _ I hq)
  · intro fl s' hs
    cases fl with
    | ret u => obtain ⟨v, σ', H', J, rv, q⟩ := hs; exact ⟨v, H', J.os, J.bare, J.base, J.hok, rv, q⟩
    | next => obtain ⟨σ', H', J, q⟩ := hs; exact ⟨V.non, H', J.os, J.bare, J.base, J.hok, rfl, q⟩
    | brk => obtain ⟨_, _, _, q⟩ := hs; exact q.elim
    | cont => obtain ⟨_, _, _, q⟩ := hs; exact q.elim
  · exact fun _ _ hs => hs
theorem fn_body {k : Nat} {x qual : Str} {st : Stmt} {f : Addr} {fd : FuncData} {N ps : List Str} {sp : Sp}
    (F : Fun K x qual st f fd) (S : FnScope N ps (defScope st)) (len : ∀ vs H Q E, sp vs H Q E → vs.length = ps.length)
    (body : ∀ (cdv : Value) (A : Around) (outer : List Env) (s : Shared) (H : Hp) (vs : List V) (Q : VK) (E : XK),
      RmG k (A.deeper (envOfC qual (defScope st) s.heap.objs.size f cdv)) → sp vs H Q E →
      ∃ t, PSs (cxOf CX P w K mg base N qual (defScope st) f cdv A outer s H E) (defBody st) t ∧
        t { nx := fun _ H' => Q .non H', rt := Q } (start N vs) H) : FnG P w K mg base CX (k + 1) f fd ps sp :=
  fn_bodyC F S len fun cdv _ => body cdv
end

section
variable {X : Cx} {CX : CXT} {k : Nat} {f : Addr} {fd : FuncData} {ps : List Str} {sp : Sp} {E : XK} {x : Str} {p pos : Pos} {e : Expr} {es : List Expr} {t : TA}
theorem run_G {pins : List (Addr × Obj)} {σ : L2.St} {H : Hp} {s : Shared} {Q : VK} {us : List Value} {vs : List V}
    (F : FnG X.prog X.w X.K X.mg X.base CX k f fd ps sp) (hr : RmG k X.A) (hb : Binds X.K fd ps []) (hx : Passes CX X E)
    (I : Inv X pins σ H s) (r : Vals vs us) (h : sp vs H Q E) : wpAny (model X.prog X.w) X.A (call (.ref f) us) (EP X pins σ Q) X.xe s := by
  have hl : (us ++ []).length = ps.length := by rw [List.append_nil, ← r.length]; exact F.len _ _ _ _ h
  have hb' := hb s us I.kIn hl
  rw [List.append_nil] at hb'
  apply wpAny_call
  apply codeAny_mono (F.run X.A X.stack s H ⟨us, []⟩ us vs Q E hr I.env0 hb' r h)
  intro r s' hq
  match r, hq with
  | .error e, hq => exact hx pins σ H s e s' I hq
  | .ok (.ret u), hq => exact I.after hq
  | .ok .next, hq => exact hq.elim
  | .ok .brk, hq => exact hq.elim
  | .ok .cont, hq => exact hq.elim
theorem pe_callG (F : FnG X.prog X.w X.K X.mg X.base CX k f fd ps sp) (hr : RmG k X.A) (hg : Gl X x) (hm : X.mg x = some (.ref f))
    (hk : PySem.W.keepIn X.K (.ref f) = true) (hb : Binds X.K fd ps []) (hx : Passes CX X E)
    (ha : PA X (e :: es) t) (hdb : (x == ("__debug__" : Str)) = false := by decide)
    (he : starEach (e :: es) X.env = (false, eval e X.env) :: starEach es X.env := by rfl)
    (hpl : (backTo pos (starEach es X.env)).any (·.1) = false := by rfl) :
    PE X (.Call (.Name x p) (e :: es) [] pos) (fun σ H Q => t σ H fun vs H1 => sp vs H1 Q E) := by
  constructor
  intro pins s σ H Q I h
  apply wpAny_Call_Name_kw
  apply ld_glob I hg hm _ hdb
  apply PySem.W.callWith_K (h₀ := X.base) I.ok.mod.kin hk _ he hpl
  apply thn (ha.run pos pins s σ H _ I h)
  rintro us s1 ⟨vs, H1, I1, r, q⟩
  exact ⟨I1.kIn, run_G F hr hb hx I1 r q⟩
theorem pe_callG0 (F : FnG X.prog X.w X.K X.mg X.base CX k f fd ps sp) (hr : RmG k X.A) (hg : Gl X x) (hm : X.mg x = some (.ref f))
    (hk : PySem.W.keepIn X.K (.ref f) = true) (hb : Binds X.K fd ps []) (hx : Passes CX X E)
    (hdb : (x == ("__debug__" : Str)) = false := by decide) :
    PE X (.Call (.Name x p) [] [] pos) (fun _ H Q => sp [] H Q E) := by
  constructor
  intro pins s σ H Q I h
  apply wpAny_Call_Name_kw
  apply ld_glob I hg hm _ hdb
  exact PySem.W.callWith_K0 I.kIn hk (run_G (us := []) F hr hb hx I .nil h)

/-- the text of data -/
theorem call_reprD (hg : X.A.guards = some []) (hu : X.A.units + 66 < cLine) : CallR X (.builtin "repr") (fun xs H Q => ∃ x d, xs = [x] ∧ Dp X.K H x d ∧ d.showable = true ∧
    SeqAt.shaped d = true ∧ d.shown.length ≤ sizeLine ∧ Q (.str d.shown) H) := by
  intro pins s σ H xs us Q I r h
  obtain ⟨x, d, rfl, hd, hs, hsh, hsz, q⟩ := h
  obtain ⟨u, rfl, rx⟩ := vals1 r
  have sh : d.canLay0 = true ∧ d.depth ≤ 64 := by
    have h2 : (d.canLay0 && decide (d.depth ≤ 64)) = true := hsh
    rw [Bool.and_eq_true] at h2
    exact ⟨h2.1, of_decide_eq_true h2.2⟩
  have refs : ∀ {a : Addr}, u = .ref a → wpAny (model X.prog X.w) X.A (call (.builtin "repr") [u]) (EP X pins σ Q) X.xe s := by
    rintro a rfl
    obtain ⟨as, r1⟩ := Dp.reads I d x (.ref a) hd rx
    refine repr_of_reads' r1 hs (PyData.noDict_hsm (PyData.hasDict_of_canLay d sh.1)) hg (by omega) (fun _ _ e => e) (fun h' u tk hk => ?_) hsz
    exact ⟨.str d.shown, H, I.kept hk, ⟨u, rfl⟩, q⟩
  cases hd with
  | non => cases rx; exact PySem.P.repr_of_none ⟨.str _, H, I.tok _, ⟨_, rfl⟩, q⟩
  | bl b => cases rx; exact PySem.P.repr_of_bool ⟨.str _, H, I.tok _, ⟨_, rfl⟩, q⟩
  | int i => obtain ⟨t, rfl⟩ := rx; exact PySem.P.repr_of_int (of_decide_eq_true hs) ⟨.str _, H, I.tok _, ⟨_, rfl⟩, q⟩
  | str z => obtain ⟨t, rfl⟩ := rx; exact PySem.P.repr_of_str ⟨.str _, H, I.tok _, ⟨_, rfl⟩, q⟩ hsz
  | lst h1 h2 => exact refs rx
  | tup h1 h2 => exact refs rx
end
end DL

set_option Elab.async false
set_option linter.all false
set_option maxRecDepth 100000
set_option maxHeartbeats 4000000
/-! data: what a value is, as a tree; slots that hold data, lists of one's own, the source; readings over data alone -/
namespace DL
open PySem PySem.Spec PyProof.Rows L2
/-- the tables of code objects that may grow -/
class Tb where
  Ts : List Addr
variable [Tb]

/-! ### heaps and hidden places -/
def hid (O : List Addr) (H : Hp) : Hp := fun a => if a ∈ O then none else H a
theorem hid_out {O : List Addr} {H : Hp} {a : Addr} (h : a ∉ O) : hid O H a = H a := if_neg h
theorem hid_in {O : List Addr} {H : Hp} {a : Addr} (h : a ∈ O) : hid O H a = none := if_pos h
theorem hid_some {O : List Addr} {H : Hp} {a : Addr} {o : HO} (h : hid O H a = some o) : a ∉ O ∧ H a = some o := by
  by_cases m : a ∈ O
  · rw [hid_in m] at h; cases h
  · rw [hid_out m] at h; exact ⟨m, h⟩
theorem hid_same {O O' : List Addr} {H H' : Hp} (h1 : ∀ a o, a ∉ O → H a = some o → H' a = some o)
    (h2 : ∀ a ∈ O', a ∈ O ∨ H a = none) : Same (hid O H) (hid O' H') := by
  intro a o h
  obtain ⟨m, e⟩ := hid_some h
  rw [hid_out]
  · exact h1 a o m e
  · intro z
    rcases h2 a z with q | q
    · exact m q
    · rw [e] at q; cases q
theorem SqT.same {K : PySem.W.Frag} {H H' : Hp} {a : Addr} {xs : List V} (e : Same H H') (h : SqT K H a xs) : SqT K H' a xs := by
  rcases h with (h | ⟨o, h⟩) | h
  · exact .inl (.inl (e _ _ h))
  · exact .inl (.inr ⟨o, e _ _ h⟩)
  · exact .inr h
/-- a key of a dict as data -/
def keyD : Key → PyData
  | .inl i => .int i
  | .inr s => .str s
/-- what an object of a dict holds: its keys as data, its values -/
def DObj (o : HO) (ks : List PyData) (vs : List V) : Prop := ∃ kvs : List (Key × V), o = .dK kvs ∧ ks = kvs.map (fun p => keyD p.1) ∧ vs = kvs.map (·.2)
/-- what may be one's own: a list or a dict -/
def IsOwn (o : HO) : Prop := (∀ xs : List V, o ≠ .tup xs) ∧ ∀ (b : Obj) (xs : List V), o ≠ .frz b (.tup xs)
theorem own_lst {xs : List V} : IsOwn (.lst xs) := ⟨fun _ z => (by cases z), fun _ _ z => (by cases z)⟩
theorem own_dK {kvs : List (Key × V)} : IsOwn (.dK kvs) := ⟨fun _ z => (by cases z), fun _ _ z => (by cases z)⟩
theorem DObj.own {o : HO} {ks : List PyData} {vs : List V} (h : DObj o ks vs) : IsOwn o := by
  obtain ⟨kvs, rfl, _⟩ := h
  exact own_dK
mutual
/-- data: lists are tracked and may be one's own, tuples may be written ones -/
inductive Dx (K : PySem.W.Frag) (H : Hp) : V → PyData → Prop
  | non : Dx K H .non .none
  | bl (b : Bool) : Dx K H (.bl b) (.bool b)
  | int (i : Int) : Dx K H (.int i) (.int i)
  | str (x : Str) : Dx K H (.str x) (.str x)
  | lst {a : Addr} {xs : List V} {ds : List PyData} : H a = some (HO.lst xs) → DxAll K H xs ds → Dx K H (.ref a) (.list ds)
  | tup {a : Addr} {xs : List V} {ds : List PyData} : SqT K H a xs → DxAll K H xs ds → Dx K H (.ref a) (.tuple ds)
  | dct {a : Addr} {o : HO} {vs : List V} {es : List (PyData × PyData)} : H a = some o → DObj o (es.map (·.1)) vs → DxAll K H vs (es.map (·.2)) → Dx K H (.ref a) (.dict es)
inductive DxAll (K : PySem.W.Frag) (H : Hp) : List V → List PyData → Prop
  | nil : DxAll K H [] []
  | cons {v : V} {vs : List V} {d : PyData} {ds : List PyData} : Dx K H v d → DxAll K H vs ds → DxAll K H (v :: vs) (d :: ds)
end
mutual
theorem Dx.dp {K : PySem.W.Frag} {H : Hp} : ∀ (d : PyData) (v : V), Dx K H v d → d.canLay0 = true → Dp K H v d
  | _, _, .non, _ => .non
  | _, _, .bl b, _ => .bl b
  | _, _, .int i, _ => .int i
  | _, _, .str x, _ => .str x
  | _, _, .lst (ds := ds) h q, n => .lst (.inl (.inl h)) (DxAll.dp ds _ q (by simpa [PyData.canLay0] using n))
  | _, _, .tup (ds := ds) h q, n => .tup h (DxAll.dp ds _ q (by simpa [PyData.canLay0] using n))
  | _, _, .dct _ _ _, n => by simp [PyData.canLay0] at n
theorem DxAll.dp {K : PySem.W.Frag} {H : Hp} : ∀ (ds : List PyData) (vs : List V), DxAll K H vs ds → PyData.canLayAll0 ds = true → DpAll K H vs ds
  | _, _, .nil, _ => .nil
  | _, _, .cons (d := d) (ds := ds) h q, n => by
    simp only [PyData.canLayAll0, Bool.and_eq_true] at n
    exact .cons (Dx.dp d _ h n.1) (DxAll.dp ds _ q n.2)
end
mutual
theorem Dx.same {K : PySem.W.Frag} {H H' : Hp} (s : Same H H') : ∀ (d : PyData) (v : V), Dx K H v d → Dx K H' v d
  | _, _, .non => .non
  | _, _, .bl b => .bl b
  | _, _, .int i => .int i
  | _, _, .str x => .str x
  | _, _, .lst (ds := ds) h q => .lst (s _ _ h) (DxAll.same s ds _ q)
  | _, _, .tup (ds := ds) h q => .tup (SqT.same s h) (DxAll.same s ds _ q)
  | _, _, .dct (es := es) h q t => .dct (s _ _ h) q (DxAll.same s (es.map (·.2)) _ t)
theorem DxAll.same {K : PySem.W.Frag} {H H' : Hp} (s : Same H H') : ∀ (ds : List PyData) (vs : List V), DxAll K H vs ds → DxAll K H' vs ds
  | _, _, .nil => .nil
  | _, _, .cons (d := d) (ds := ds) h q => .cons (Dx.same s d _ h) (DxAll.same s ds _ q)
end
theorem DxAll.len {K : PySem.W.Frag} {H : Hp} : ∀ {vs : List V} {ds : List PyData}, DxAll K H vs ds → vs.length = ds.length
  | _, _, .nil => rfl
  | _, _, .cons _ q => by rw [List.length_cons, List.length_cons, DxAll.len q]
theorem DxAll.get {K : PySem.W.Frag} {H : Hp} : ∀ {vs : List V} {ds : List PyData}, DxAll K H vs ds → ∀ {i : Nat} {d : PyData}, ds[i]? = some d → ∃ v, vs[i]? = some v ∧ Dx K H v d
  | _, _, .nil, i, d, e => by simp at e
  | _, _, .cons h _, 0, d, e => by simp at e; subst e; exact ⟨_, rfl, h⟩
  | _, _, .cons _ q, i + 1, d, e => by
    obtain ⟨v, h1, h2⟩ := DxAll.get q (i := i) (d := d) (by simpa using e)
    exact ⟨v, by simpa using h1, h2⟩
theorem DxAll.get' {K : PySem.W.Frag} {H : Hp} : ∀ {vs : List V} {ds : List PyData}, DxAll K H vs ds → ∀ {i : Nat} {v : V}, vs[i]? = some v → ∃ d, ds[i]? = some d ∧ Dx K H v d
  | _, _, .nil, i, d, e => by simp at e
  | _, _, .cons h _, 0, d, e => by simp at e; subst e; exact ⟨_, rfl, h⟩
  | _, _, .cons _ q, i + 1, d, e => by
    obtain ⟨v, h1, h2⟩ := DxAll.get' q (i := i) (v := d) (by simpa using e)
    exact ⟨v, by simpa using h1, h2⟩
theorem DxAll.app {K : PySem.W.Frag} {H : Hp} : ∀ {vs ws : List V} {ds es : List PyData}, DxAll K H vs ds → DxAll K H ws es → DxAll K H (vs ++ ws) (ds ++ es)
  | _, _, _, _, .nil, q => q
  | _, _, _, _, .cons h t, q => .cons h (DxAll.app t q)
theorem DxAll.take {K : PySem.W.Frag} {H : Hp} : ∀ {vs : List V} {ds : List PyData} (n : Nat), DxAll K H vs ds → DxAll K H (vs.take n) (ds.take n)
  | _, _, 0, _ => .nil
  | _, _, _ + 1, .nil => .nil
  | _, _, n + 1, .cons h t => .cons h (DxAll.take n t)
theorem DxAll.drop {K : PySem.W.Frag} {H : Hp} : ∀ {vs : List V} {ds : List PyData} (n : Nat), DxAll K H vs ds → DxAll K H (vs.drop n) (ds.drop n)
  | _, _, 0, h => h
  | _, _, _ + 1, .nil => .nil
  | _, _, n + 1, .cons _ t => DxAll.drop n t
theorem DxAll.rev {K : PySem.W.Frag} {H : Hp} : ∀ {vs : List V} {ds : List PyData}, DxAll K H vs ds → DxAll K H vs.reverse ds.reverse
  | _, _, .nil => .nil
  | _, _, .cons h t => by rw [List.reverse_cons, List.reverse_cons]; exact DxAll.app (DxAll.rev t) (.cons h .nil)

/-! ### the source of draws -/
def SrcAt (H : Hp) (a c : Addr) : Prop := ∃ (cells : List Int) (left mixed turn : Int),
  H a = some (.dK [(.inr "cells", .ref c), (.inr "left", .int left), (.inr "mixed", .int mixed), (.inr "turn", .int turn)]) ∧ H c = some (.lst (cells.map V.int)) ∧ cells.length ≤ 63
def SrcOk (H : Hp) (S : List Addr) : Prop := (S = Tb.Ts ∨ ∃ a c, S = a :: c :: Tb.Ts ∧ SrcAt H a c) ∧ ∀ P ∈ (Tb.Ts : List Addr), GxR.TabG H P
theorem SrcOk.there {H : Hp} {S : List Addr} (h : SrcOk H S) : ∀ a ∈ S, H a ≠ none := by
  have tb : ∀ P ∈ (Tb.Ts : List Addr), H P ≠ none := fun P m q => by
    obtain ⟨ps, e, _⟩ := h.2 P m
    rw [e] at q; cases q
  rcases h.1 with e | ⟨a, c, e, cs, l, m, t, h1, h2, _⟩
  · intro a z; rw [e] at z; exact tb a z
  · intro b z q
    rw [e] at z
    rcases List.mem_cons.mp z with rfl | z
    · rw [h1] at q; cases q
    · rcases List.mem_cons.mp z with rfl | z
      · rw [h2] at q; cases q
      · exact tb b z q
/-- all stands as it stood, but for the source -/
structure Ext (S : List Addr) (H H' : Hp) : Prop where
  st : ∀ a o, a ∉ S → H a = some o → H' a = some o
  so : SrcOk H S → SrcOk H' S
theorem Ext.refl {S : List Addr} {H : Hp} : Ext S H H := ⟨fun _ _ _ h => h, id⟩
theorem Ext.trans {S : List Addr} {H H1 H2 : Hp} (a : Ext S H H1) (b : Ext S H1 H2) : Ext S H H2 :=
  ⟨fun c o n h => b.st c o n (a.st c o n h), fun h => b.so (a.so h)⟩
theorem SrcOk.same {S : List Addr} {H H' : Hp} (s : Same H H') (h : SrcOk H S) : SrcOk H' S := by
  refine ⟨?_, fun P m => ?_⟩
  · rcases h.1 with h | ⟨a, c, e, cs, l, m, t, h1, h2, h3⟩
    · exact .inl h
    · exact .inr ⟨a, c, e, cs, l, m, t, s _ _ h1, s _ _ h2, h3⟩
  · obtain ⟨ps, e, r⟩ := h.2 P m
    exact ⟨ps, s _ _ e, r⟩
theorem Ext.of {S : List Addr} {H H' : Hp} (s : Same H H') : Ext S H H' := ⟨fun a o _ h => s a o h, SrcOk.same s⟩
theorem same_new {H : Hp} {p : Addr} {o : HO} (h : H p = none) : Same H (upd H p o) := fun b x e => by
  rw [upd_ne (ne_of_none e h)]; exact e

/-! ### slots -/
inductive SV where
  /-- not read -/
  | un
  /-- data that nobody changes -/
  | va (d : PyData)
  /-- a list of one's own -/
  | ow (ds : List PyData)
  /-- the source -/
  | so
  /-- a dict of one's own -/
  | od (es : List (PyData × PyData))
  /-- a def that was handed over -/
  | fn (f : Addr)
abbrev SD := List SV
@[reducible] def SV.isOwn : SV → Bool
  | .ow _ => true
  | .od _ => true
  | _ => false
/-- what is fixed while a def's body runs -/
structure Cd where
  K : PySem.W.Frag
  H0 : Hp
  Oc : List Addr
  S : List Addr
  /-- what else stays -/
  T : List (V × PyData)
/-- the hidden places: the caller's and those of one's own lists -/
def OO (c : Cd) (os : List (Option Addr)) : List Addr := c.Oc ++ os.filterMap id
theorem mem_OO {c : Cd} {os : List (Option Addr)} {a : Addr} : a ∈ OO c os ↔ a ∈ c.Oc ∨ some a ∈ os := by
  unfold OO
  rw [List.mem_append, List.mem_filterMap]
  constructor
  · rintro (h | ⟨b, h1, h2⟩)
    · exact .inl h
    · exact .inr (by have : b = some a := h2; rw [← this]; exact h1)
  · rintro (h | h)
    · exact .inl h
    · exact .inr ⟨_, h, rfl⟩
def DE (K : PySem.W.Frag) (H : Hp) (o : HO) (es : List (PyData × PyData)) : Prop := ∃ vs : List V, DObj o (es.map (·.1)) vs ∧ DxAll K H vs (es.map (·.2))
theorem DE.same {K : PySem.W.Frag} {H H' : Hp} {o : HO} {es : List (PyData × PyData)} (s : Same H H') (h : DE K H o es) : DE K H' o es := by
  obtain ⟨vs, h1, h2⟩ := h
  exact ⟨vs, h1, DxAll.same s _ _ h2⟩
theorem DE.own {K : PySem.W.Frag} {H : Hp} {o : HO} {es : List (PyData × PyData)} (h : DE K H o es) : IsOwn o := by
  obtain ⟨vs, h1, _⟩ := h
  exact h1.own
theorem DE.dx {K : PySem.W.Frag} {H : Hp} {a : Addr} {o : HO} {es : List (PyData × PyData)} (e : H a = some o) (h : DE K H o es) : Dx K H (.ref a) (.dict es) := by
  obtain ⟨vs, h1, h2⟩ := h
  exact .dct e h1 h2
def SlotR (c : Cd) (O : List Addr) (H : Hp) (s : SV) (v : Option V) (oa : Option Addr) : Prop := match s with
  | .un => oa = none
  | .va d => oa = none ∧ ∃ x : V, v = some x ∧ Dx c.K (hid O H) x d
  | .ow ds => ∃ (a : Addr) (xs : List V), oa = some a ∧ v = some (V.ref a) ∧ H a = some (HO.lst xs) ∧ DxAll c.K (hid O H) xs ds ∧ c.H0 a = none
  | .od es => ∃ (a : Addr) (o : HO), oa = some a ∧ v = some (V.ref a) ∧ H a = some o ∧ DE c.K (hid O H) o es ∧ c.H0 a = none
  | .so => oa = none ∧ ∃ a b, c.S = a :: b :: Tb.Ts ∧ v = some (.ref a)
  | .fn f => oa = none ∧ v = some (.ref f)
/-- hidden places hold lists, or are the source's -/
def OcOk (H : Hp) (S Oc : List Addr) : Prop := ∀ a ∈ Oc, a ∈ S ∨ ∃ o : HO, H a = some o ∧ IsOwn o
theorem OcOk.there {H : Hp} {S Oc : List Addr} (h : OcOk H S Oc) (hs : SrcOk H S) : ∀ a ∈ Oc, H a ≠ none := fun a m => by
  rcases h a m with z | ⟨o, e, _⟩
  · exact hs.there a z
  · rw [e]; intro q; cases q
structure R (c : Cd) (sd : SD) (os : List (Option Addr)) (σ : L2.St) (H : Hp) : Prop where
  ext : Ext c.S c.H0 H
  src : SrcOk c.H0 c.S
  sin : ∀ a ∈ c.S, a ∈ c.Oc
  ocl : OcOk H c.S c.Oc
  lend : sd.length = σ.length
  leno : os.length = σ.length
  slot : ∀ (i : Nat) (s : SV) (v : Option V) (oa : Option Addr), sd[i]? = some s → σ[i]? = some v → os[i]? = some oa → SlotR c (OO c os) H s v oa
  uniq : ∀ (i j : Nat) (a : Addr), os[i]? = some (some a) → os[j]? = some (some a) → i = j
  tmp : ∀ p ∈ c.T, Dx c.K (hid (OO c os) H) p.1 p.2
  dis : ∀ a, some a ∈ os → a ∉ c.Oc
theorem OcOk.grow {H H' : Hp} {S Oc : List Addr} (h : OcOk H S Oc) (x : Ext S H H') : OcOk H' S Oc := fun a m => by
  by_cases z : a ∈ S
  · exact .inl z
  · rcases h a m with y | ⟨o, e, w⟩
    · exact .inl y
    · exact .inr ⟨o, x.st a _ z e, w⟩
section
variable {c : Cd} {sd : SD} {os : List (Option Addr)} {σ : L2.St} {H H' : Hp}
theorem R.sO (r : R c sd os σ H) : ∀ a ∈ c.S, a ∈ OO c os := fun a h => mem_OO.mpr (.inl (r.sin a h))
theorem R.ownAt (r : R c sd os σ H) {a : Addr} (h : some a ∈ os) : ∃ (i : Nat) (s : SV) (o : HO), sd[i]? = some s ∧ s.isOwn = true ∧ σ[i]? = some (some (V.ref a)) ∧ os[i]? = some (some a) ∧ H a = some o ∧ IsOwn o ∧ c.H0 a = none := by
  obtain ⟨i, hi, e⟩ := List.getElem_of_mem h
  have eo : os[i]? = some (some a) := by rw [List.getElem?_eq_getElem hi, e]
  have l1 : i < sd.length := by rw [r.lend, ← r.leno]; exact hi
  have l2 : i < σ.length := by rw [← r.leno]; exact hi
  have s := r.slot i sd[i] σ[i] _ (List.getElem?_eq_getElem l1) (List.getElem?_eq_getElem l2) eo
  cases q : sd[i] with
  | un => rw [q] at s; cases s
  | va d => rw [q] at s; cases s.1
  | so => rw [q] at s; cases s.1
  | fn _ => rw [q] at s; cases s.1
  | ow ds =>
    rw [q] at s
    obtain ⟨a', xs, e1, e2, e3, e4, e5⟩ := s
    cases e1
    exact ⟨i, _, _, by rw [List.getElem?_eq_getElem l1, q], rfl, by rw [List.getElem?_eq_getElem l2, e2], eo, e3, own_lst, e5⟩
  | od es =>
    rw [q] at s
    obtain ⟨a', o, e1, e2, e3, e4, e5⟩ := s
    cases e1
    exact ⟨i, _, o, by rw [List.getElem?_eq_getElem l1, q], rfl, by rw [List.getElem?_eq_getElem l2, e2], eo, e3, e4.own, e5⟩
theorem R.there (r : R c sd os σ H) {a : Addr} (h : a ∈ OO c os) : H a ≠ none := by
  rcases mem_OO.mp h with q | q
  · exact r.ocl.there (r.ext.so r.src) a q
  · obtain ⟨_, _, _, _, _, _, _, e, _⟩ := r.ownAt q
    rw [e]; intro z; cases z
theorem R.newOut (r : R c sd os σ H) {p : Addr} (h : H p = none) : p ∉ OO c os := fun m => r.there m h
/-- data stays where the heap grows -/
theorem Dx.grow {K : PySem.W.Frag} {S O : List Addr} {v : V} {d : PyData} (hs : ∀ a ∈ S, a ∈ O) (x : Ext S H H') (h : Dx K (hid O H) v d) : Dx K (hid O H') v d :=
  Dx.same (hid_same (fun a o n e => x.st a o (fun z => n (hs a z)) e) fun a m => .inl m) d v h
theorem DxAll.grow {K : PySem.W.Frag} {S O : List Addr} {v : List V} {d : List PyData} (hs : ∀ a ∈ S, a ∈ O) (x : Ext S H H') (h : DxAll K (hid O H) v d) : DxAll K (hid O H') v d :=
  DxAll.same (hid_same (fun a o n e => x.st a o (fun z => n (hs a z)) e) fun a m => .inl m) d v h
theorem DE.grow {K : PySem.W.Frag} {S O : List Addr} {o : HO} {es : List (PyData × PyData)} (hs : ∀ a ∈ S, a ∈ O) (x : Ext S H H') (h : DE K (hid O H) o es) : DE K (hid O H') o es :=
  DE.same (hid_same (fun a o n e => x.st a o (fun z => n (hs a z)) e) fun a m => .inl m) h
theorem own_notS (r : R c sd os σ H) {a : Addr} (h : some a ∈ os) : a ∉ c.S := fun z => by
  obtain ⟨_, _, _, _, _, _, _, _, _, e⟩ := r.ownAt h
  exact r.src.there a z e
theorem R.grow (r : R c sd os σ H) (x : Ext c.S H H') : R c sd os σ H' := by
  refine ⟨r.ext.trans x, r.src, r.sin, r.ocl.grow x, r.lend, r.leno, fun i s v oa h1 h2 h3 => ?_, r.uniq, fun p m => Dx.grow r.sO x (r.tmp p m), r.dis⟩
  have q := r.slot i s v oa h1 h2 h3
  cases s with
  | un => exact q
  | va d => obtain ⟨q1, y, q2, q3⟩ := q; exact ⟨q1, y, q2, Dx.grow r.sO x q3⟩
  | so => exact q
  | fn _ => exact q
  | ow ds =>
    obtain ⟨a, xs, rfl, e2, e3, e4, e5⟩ := q
    exact ⟨a, xs, rfl, e2, x.st a _ (own_notS r (List.mem_of_getElem? h3)) e3, DxAll.grow r.sO x e4, e5⟩
  | od es =>
    obtain ⟨a, o, rfl, e2, e3, e4, e5⟩ := q
    exact ⟨a, o, rfl, e2, x.st a _ (own_notS r (List.mem_of_getElem? h3)) e3, DE.grow r.sO x e4, e5⟩
theorem R.ocNow (r : R c sd os σ H) : OcOk H c.S (OO c os) := fun a m => by
  rcases mem_OO.mp m with q | q
  · exact r.ocl a q
  · obtain ⟨_, _, o, _, _, _, _, e, w, _⟩ := r.ownAt q
    exact .inr ⟨o, e, w⟩
theorem R.srcNow (r : R c sd os σ H) : SrcOk H c.S := r.ext.so r.src
end
end DL

set_option Elab.async false
set_option linter.all false
set_option maxRecDepth 100000
set_option maxHeartbeats 4000000
/-! expressions over data -/
namespace DL
open PySem PySem.Spec PyProof.Rows L2
variable [Tb]

/-- what an expression hands back: data, or a new list -/
inductive RV where
  | va (d : PyData)
  | fr (ds : List PyData)
  | fd (es : List (PyData × PyData))
@[reducible] def RV.dat : RV → PyData
  | .va d => d
  | .fr ds => .list ds
  | .fd es => .dict es
@[reducible] def RV.sv : RV → SV
  | .va d => .va d
  | .fr ds => .ow ds
  | .fd es => .od es
def RvR (K : PySem.W.Frag) (O : List Addr) (H H' : Hp) (v : V) (r : RV) : Prop := match r with
  | .va d => Dx K (hid O H') v d
  | .fr ds => ∃ (p : Addr) (xs : List V), v = V.ref p ∧ H p = none ∧ H' p = some (HO.lst xs) ∧ DxAll K (hid (p :: O) H') xs ds
  | .fd es => ∃ (p : Addr) (o : HO), v = V.ref p ∧ H p = none ∧ H' p = some o ∧ DE K (hid (p :: O) H') o es
/-- how a value is read: nothing of one's own in it; itself perhaps a list of one's own; any -/
inductive Md where
  | cl | sh | bo
def DM (m : Md) (K : PySem.W.Frag) (S O : List Addr) (H : Hp) (v : V) (d : PyData) : Prop := match m with
  | .cl => Dx K (hid O H) v d
  | .bo => Dx K (hid S H) v d
  | .sh => match d with
    | .list ds => ∃ (a : Addr) (xs : List V), v = V.ref a ∧ hid S H a = some (HO.lst xs) ∧ DxAll K (hid O H) xs ds
    | .dict es => ∃ (a : Addr) (o : HO), v = V.ref a ∧ hid S H a = some o ∧ DE K (hid O H) o es
    | d => Dx K (hid O H) v d
abbrev WR := SD → (RV → Prop) → Prop
abbrev WD := SD → (PyData → Prop) → Prop
abbrev WB := SD → (Bool → Prop) → Prop
abbrev WL := SD → (List PyData → Prop) → Prop
def tR (K : PySem.W.Frag) (w : WR) : TE := fun σ H Q => ∃ (c : Cd) (sd : SD) (os : List (Option Addr)), c.K = K ∧ R c sd os σ H ∧
  w sd fun r => ∀ v H', Ext c.S H H' → RvR K (OO c os) H H' v r → Q v H'
def tM (m : Md) (K : PySem.W.Frag) (w : WD) : TE := fun σ H Q => ∃ (c : Cd) (sd : SD) (os : List (Option Addr)), c.K = K ∧ R c sd os σ H ∧
  w sd fun d => ∀ v H', Ext c.S H H' → DM m K c.S (OO c os) H' v d → Q v H'
def tTe (K : PySem.W.Frag) (w : WB) : TT := fun σ H Q => ∃ (c : Cd) (sd : SD) (os : List (Option Addr)), c.K = K ∧ R c sd os σ H ∧
  w sd fun b => ∀ H', Ext c.S H H' → Q b H'
inductive DMs (m : Md) (K : PySem.W.Frag) (S O : List Addr) (H : Hp) : List V → List PyData → Prop
  | nil : DMs m K S O H [] []
  | cons {v : V} {vs : List V} {d : PyData} {ds : List PyData} : DM m K S O H v d → DMs m K S O H vs ds → DMs m K S O H (v :: vs) (d :: ds)
def tLi (m : Md) (K : PySem.W.Frag) (w : WL) : TA := fun σ H Q => ∃ (c : Cd) (sd : SD) (os : List (Option Addr)), c.K = K ∧ R c sd os σ H ∧
  w sd fun ds => ∀ vs H', Ext c.S H H' → DMs m K c.S (OO c os) H' vs ds → Q vs H'
structure EvR (X : Cx) (e : Expr) (w : WR) : Prop where
  pe : PE X e (tR X.K w)
  mo : ∀ sd (Q Q' : RV → Prop), (∀ r, Q r → Q' r) → w sd Q → w sd Q'
structure Ev (m : Md) (X : Cx) (e : Expr) (w : WD) : Prop where
  pe : PE X e (tM m X.K w)
  mo : ∀ sd (Q Q' : PyData → Prop), (∀ r, Q r → Q' r) → w sd Q → w sd Q'
structure EvT (X : Cx) (e : Expr) (w : WB) : Prop where
  pt : PT X e (tTe X.K w)
  mo : ∀ sd (Q Q' : Bool → Prop), (∀ r, Q r → Q' r) → w sd Q → w sd Q'
structure EvL (m : Md) (X : Cx) (es : List Expr) (w : WL) : Prop where
  pa : PA X es (tLi m X.K w)
  mo : ∀ sd (Q Q' : List PyData → Prop), (∀ r, Q r → Q' r) → w sd Q → w sd Q'

theorem PE.weak {X : Cx} {e : Expr} {t t' : TE} (h : PE X e t) (k : ∀ σ H Q, t' σ H Q → t σ H Q) : PE X e t' :=
  ⟨fun pins s σ H Q I q => h.run pins s σ H Q I (k σ H Q q)⟩
theorem PT.weak {X : Cx} {e : Expr} {t t' : TT} (h : PT X e t) (k : ∀ σ H Q, t' σ H Q → t σ H Q) : PT X e t' :=
  ⟨fun pins s σ H Q I q => h.run pins s σ H Q I (k σ H Q q)⟩
theorem PA.weak {X : Cx} {e : List Expr} {t t' : TA} (h : PA X e t) (k : ∀ σ H Q, t' σ H Q → t σ H Q) : PA X e t' :=
  ⟨fun pos pins s σ H Q I q => h.run pos pins s σ H Q I (k σ H Q q)⟩

section
variable {K : PySem.W.Frag} {S O : List Addr} {H H' : Hp} {v : V} {d : PyData} {m : Md}
theorem hid_grow {a : Addr} {o : HO} (hs : ∀ a ∈ S, a ∈ O) (x : Ext S H H') (h : hid O H a = some o) : hid O H' a = some o :=
  hid_same (fun a o n e => x.st a o (fun z => n (hs a z)) e) (fun a m => .inl m) a o h
theorem DM.grow (hs : ∀ a ∈ S, a ∈ O) (x : Ext S H H') (h : DM m K S O H v d) : DM m K S O H' v d := by
  cases m with
  | cl => exact Dx.grow (S := S) hs x h
  | bo => exact Dx.grow (S := S) (fun _ h => h) x h
  | sh =>
    cases d with
    | list ds =>
      obtain ⟨a, xs, e, h1, h2⟩ := h
      exact ⟨a, xs, e, hid_grow (fun _ h => h) x h1, DxAll.grow hs x h2⟩
    | none => exact Dx.grow (S := S) hs x h
    | bool b => exact Dx.grow (S := S) hs x h
    | int b => exact Dx.grow (S := S) hs x h
    | str b => exact Dx.grow (S := S) hs x h
    | tuple b => exact Dx.grow (S := S) hs x h
    | dict b =>
      obtain ⟨a, o, e, h1, h2⟩ := h
      exact ⟨a, o, e, hid_grow (fun _ h => h) x h1, DE.grow hs x h2⟩
theorem DMs.grow (hs : ∀ a ∈ S, a ∈ O) (x : Ext S H H') : ∀ {vs : List V} {ds : List PyData}, DMs m K S O H vs ds → DMs m K S O H' vs ds
  | _, _, .nil => .nil
  | _, _, .cons h t => .cons (DM.grow hs x h) (DMs.grow hs x t)
theorem hid_le (hs : ∀ a ∈ S, a ∈ O) : Same (hid O H) (hid S H) := hid_same (fun _ _ _ e => e) fun a m => .inl (hs a m)
theorem DM.of_cl (hs : ∀ a ∈ S, a ∈ O) (h : Dx K (hid O H) v d) : DM m K S O H v d := by
  cases m with
  | cl => exact h
  | bo => exact Dx.same (hid_le hs) d v h
  | sh =>
    cases d with
    | list ds =>
      cases h with
      | lst h1 h2 => exact ⟨_, _, rfl, hid_le hs _ _ h1, h2⟩
    | dict es =>
      cases h with
      | dct h1 h2 h3 => exact ⟨_, _, rfl, hid_le hs _ _ h1, _, h2, h3⟩
    | none => exact h
    | bool b => exact h
    | int b => exact h
    | str b => exact h
    | tuple b => exact h
theorem DM.to_bo (hs : ∀ a ∈ S, a ∈ O) (h : DM m K S O H v d) : Dx K (hid S H) v d := by
  cases m with
  | cl => exact Dx.same (hid_le hs) d v h
  | bo => exact h
  | sh =>
    cases d with
    | list ds =>
      obtain ⟨a, xs, rfl, h1, h2⟩ := h
      exact .lst h1 (DxAll.same (hid_le hs) _ _ h2)
    | none => exact Dx.same (hid_le hs) _ v h
    | bool b => exact Dx.same (hid_le hs) _ v h
    | int b => exact Dx.same (hid_le hs) _ v h
    | str b => exact Dx.same (hid_le hs) _ v h
    | tuple b => exact Dx.same (hid_le hs) _ v h
    | dict es =>
      obtain ⟨a, o, rfl, h1, vs, h2, h3⟩ := h
      exact .dct h1 h2 (DxAll.same (hid_le hs) _ _ h3)
theorem DMs.of_cl (hs : ∀ a ∈ S, a ∈ O) : ∀ {vs : List V} {ds : List PyData}, DMs .cl K S O H vs ds → DMs m K S O H vs ds
  | _, _, .nil => .nil
  | _, _, .cons h t => .cons (DM.of_cl hs h) (DMs.of_cl hs t)
theorem DMs.all (hs : ∀ a ∈ S, a ∈ O) : ∀ {vs : List V} {ds : List PyData}, DMs .cl K S O H vs ds → DxAll K (hid O H) vs ds
  | _, _, .nil => .nil
  | _, _, .cons h t => .cons h (DMs.all hs t)
theorem DMs.allB (hs : ∀ a ∈ S, a ∈ O) : ∀ {vs : List V} {ds : List PyData}, DMs m K S O H vs ds → DxAll K (hid S H) vs ds
  | _, _, .nil => .nil
  | _, _, .cons h t => .cons (DM.to_bo hs h) (DMs.allB hs t)
theorem RvR.cl {r : RV} (h : RvR K O H H' v r) (hO : ∀ a ∈ O, H a ≠ none) : Dx K (hid O H') v r.dat := by
  cases r with
  | va d => exact h
  | fr ds =>
    obtain ⟨p, xs, rfl, h1, h2, h3⟩ := h
    have np : p ∉ O := fun z => hO p z h1
    refine .lst (by rw [hid_out np]; exact h2) (DxAll.same (hid_same (fun _ _ _ e => e) fun a m => .inl (List.mem_cons_of_mem _ m)) _ _ h3)
  | fd es =>
    obtain ⟨p, o, rfl, h1, h2, h3⟩ := h
    have np : p ∉ O := fun z => hO p z h1
    exact DE.dx (by rw [hid_out np]; exact h2) (DE.same (hid_same (fun _ _ _ e => e) fun a m => .inl (List.mem_cons_of_mem _ m)) h3)
end

section
variable {X : Cx} {e a b : Expr} {es : List Expr} {m m1 m2 : Md} {pos : Pos}
theorem EvR.cl {w : WR} (h : EvR X e w) : Ev m X e (fun sd Q => w sd fun r => Q r.dat) where
  pe := PE.weak h.pe fun σ H Q ⟨c, sd, os, hk, r, q⟩ => ⟨c, sd, os, hk, r, h.mo _ _ _ (fun z k v H' x rv => k v H' x (DM.of_cl r.sO (RvR.cl rv fun a m => r.there m))) q⟩
  mo := fun sd Q Q' k q => h.mo _ _ _ (fun r z => k _ z) q
theorem Ev.rv {w : WD} (h : Ev .cl X e w) : EvR X e (fun sd Q => w sd fun d => Q (.va d)) where
  pe := PE.weak h.pe fun σ H Q ⟨c, sd, os, hk, r, q⟩ => ⟨c, sd, os, hk, r, h.mo _ _ _ (fun z k v H' x rv => k v H' x rv) q⟩
  mo := fun sd Q Q' k q => h.mo _ _ _ (fun r z => k _ z) q
theorem Ev.up {w : WD} (h : Ev .cl X e w) : Ev m X e w where
  pe := PE.weak h.pe fun σ H Q ⟨c, sd, os, hk, r, q⟩ => ⟨c, sd, os, hk, r, h.mo _ _ _ (fun z k v H' x rv => k v H' x (DM.of_cl r.sO rv)) q⟩
  mo := h.mo
theorem Ev.bo {w : WD} (h : Ev m X e w) : Ev .bo X e w where
  pe := PE.weak h.pe fun σ H Q ⟨c, sd, os, hk, r, q⟩ => ⟨c, sd, os, hk, r, h.mo _ _ _ (fun z k v H' x rv => k v H' x (DM.to_bo r.sO rv)) q⟩
  mo := h.mo

/-! ### names, constants -/
@[reducible] def getS : SD → Nat → SV
  | [], _ => .un
  | s :: _, 0 => s
  | _ :: r, n + 1 => getS r n
theorem getS_some : ∀ {sd : SD} {i : Nat} {s : SV}, getS sd i = s → s ≠ .un → sd[i]? = some s
  | [], _, s, h, n => absurd h.symm n
  | t :: _, 0, s, h, _ => by have h' : t = s := h; subst h'; rfl
  | _ :: r, k + 1, s, h, n => by have := getS_some (sd := r) (i := k) h n; simpa using this
theorem R.at_ {c : Cd} {sd : SD} {os : List (Option Addr)} {σ : L2.St} {H : Hp} {i : Nat} {s : SV} (r : R c sd os σ H) (h : getS sd i = s) (n : s ≠ .un) :
    ∃ v oa, σ[i]? = some v ∧ os[i]? = some oa ∧ SlotR c (OO c os) H s v oa := by
  have e := getS_some h n
  obtain ⟨l, _⟩ := List.getElem?_eq_some_iff.mp e
  have l2 : i < σ.length := by rw [← r.lend]; exact l
  have l3 : i < os.length := by rw [r.leno]; exact l2
  exact ⟨_, _, List.getElem?_eq_getElem l2, List.getElem?_eq_getElem l3, r.slot i s _ _ e (List.getElem?_eq_getElem l2) (List.getElem?_eq_getElem l3)⟩
def wName (i : Nat) : WD := fun sd Q => match getS sd i with
  | .va d => Q d
  | _ => False
def wNameS (i : Nat) : WD := fun sd Q => match getS sd i with
  | .va d => Q d
  | .ow ds => Q (.list ds)
  | .od es => Q (.dict es)
  | _ => False
theorem ev_name {x : Str} (i : Nat) (hN : X.N[i]? = some x := by rfl)
    (hv : Vis X.env.scope x := by first | exact Or.inl rfl | exact Or.inr (Or.inl rfl) | exact Or.inr (Or.inr rfl))
    (hd : (x == ("__debug__" : Str)) = false := by decide) (hcd : (x == ("__classdict__" : Str)) = false := by decide) : Ev m X (.Name x pos) (wName i) := by
  refine Ev.up ⟨PE.weak (pe_var hN hv hd hcd) fun σ H Q ⟨c, sd, os, hk, r, q⟩ => ?_, fun sd Q Q' k q => ?_⟩
  · unfold wName at q
    cases e : getS sd i with
    | va d =>
      rw [e] at q
      obtain ⟨v, oa, h1, h2, h3, y, rfl, h4⟩ := r.at_ e (by intro z; cases z)
      exact ⟨y, h1, q y H Ext.refl (by rw [← hk]; exact h4)⟩
    | un => rw [e] at q; exact q.elim
    | so => rw [e] at q; exact q.elim
    | fn _ => rw [e] at q; exact q.elim
    | od _ => rw [e] at q; exact q.elim
    | ow ds => rw [e] at q; exact q.elim
  · unfold wName at q ⊢
    cases e : getS sd i with
    | va d => rw [e] at q; exact k _ q
    | un => rw [e] at q; exact q.elim
    | so => rw [e] at q; exact q.elim
    | fn _ => rw [e] at q; exact q.elim
    | od _ => rw [e] at q; exact q.elim
    | ow ds => rw [e] at q; exact q.elim
theorem ev_nameS {x : Str} (i : Nat) (hN : X.N[i]? = some x := by rfl)
    (hv : Vis X.env.scope x := by first | exact Or.inl rfl | exact Or.inr (Or.inl rfl) | exact Or.inr (Or.inr rfl))
    (hd : (x == ("__debug__" : Str)) = false := by decide) (hcd : (x == ("__classdict__" : Str)) = false := by decide) : Ev .sh X (.Name x pos) (wNameS i) := by
  refine ⟨PE.weak (pe_var hN hv hd hcd) fun σ H Q ⟨c, sd, os, hk, r, q⟩ => ?_, fun sd Q Q' k q => ?_⟩
  · unfold wNameS at q
    cases e : getS sd i with
    | va d =>
      rw [e] at q
      obtain ⟨v, oa, h1, h2, h3, y, rfl, h4⟩ := r.at_ e (by intro z; cases z)
      exact ⟨y, h1, q y H Ext.refl (by rw [← hk]; exact DM.of_cl r.sO h4)⟩
    | ow ds =>
      rw [e] at q
      obtain ⟨v, oa, h1, h2, a, xs, rfl, rfl, h3, h4, h5⟩ := r.at_ e (by intro z; cases z)
      refine ⟨_, h1, q (V.ref a) H Ext.refl ?_⟩
      rw [← hk]
      exact ⟨a, xs, rfl, by rw [hid_out (own_notS r (List.mem_of_getElem? h2))]; exact h3, h4⟩
    | od es =>
      rw [e] at q
      obtain ⟨v, oa, h1, h2, a, o, rfl, rfl, h3, h4, h5⟩ := r.at_ e (by intro z; cases z)
      refine ⟨_, h1, q (V.ref a) H Ext.refl ?_⟩
      rw [← hk]
      exact ⟨a, o, rfl, by rw [hid_out (own_notS r (List.mem_of_getElem? h2))]; exact h3, h4⟩
    | un => rw [e] at q; exact q.elim
    | so => rw [e] at q; exact q.elim
    | fn _ => rw [e] at q; exact q.elim
  · unfold wNameS at q ⊢
    cases e : getS sd i with
    | va d => rw [e] at q; exact k _ q
    | ow d => rw [e] at q; exact k _ q
    | od d => rw [e] at q; exact k _ q
    | un => rw [e] at q; exact q.elim
    | so => rw [e] at q; exact q.elim
    | fn _ => rw [e] at q; exact q.elim
def wC (d : PyData) : WD := fun _ Q => Q d
theorem ev_c {d : PyData} {v : V} (h : PE X e (tC v)) (hd : ∀ K H, Dx K H v d) : Ev m X e (wC d) :=
  Ev.up ⟨PE.weak h fun σ H Q ⟨c, sd, os, hk, r, q⟩ => q v H Ext.refl (hd _ _), fun _ _ _ k q => k _ q⟩
theorem ev_int {i j} : Ev m X (.Constant (.int i) j pos) (wC (.int i)) := ev_c pe_int fun _ _ => .int i
theorem ev_bl {i j} : Ev m X (.Constant (.bool i) j pos) (wC (.bool i)) := ev_c pe_bl fun _ _ => .bl i
theorem ev_str {i j} : Ev m X (.Constant (.str i) j pos) (wC (.str i)) := ev_c pe_str fun _ _ => .str i
theorem ev_non {j} : Ev m X (.Constant .none j pos) (wC .none) := ev_c pe_non fun _ _ => .non

/-! ### lists of expressions -/
theorem evl_nil : EvL m X [] (fun _ Q => Q []) :=
  ⟨PA.weak pa_nil fun σ H Q ⟨c, sd, os, hk, r, q⟩ => q [] H Ext.refl .nil, fun _ _ _ k q => k _ q⟩
theorem evl_cons {w : WD} {ws : WL} (h : Ev m X e w) (t : EvL m X es ws) (hs : starEach (e :: es) X.env = (false, eval e X.env) :: starEach es X.env := by rfl) :
    EvL m X (e :: es) (fun sd Q => w sd fun d => ws sd fun ds => Q (d :: ds)) where
  pa := PA.weak (pa_cons h.pe t.pa hs) fun σ H Q ⟨c, sd, os, hk, r, q⟩ =>
    ⟨c, sd, os, hk, r, h.mo _ _ _ (fun d k v H1 x1 d1 => ⟨c, sd, os, hk, r.grow x1, t.mo _ _ _ (fun ds k2 vs H2 x2 d2 =>
      k2 (v :: vs) H2 (x1.trans x2) (.cons (DM.grow r.sO x2 d1) d2)) k⟩) q⟩
  mo := fun sd Q Q' k q => h.mo _ _ _ (fun d z => t.mo _ _ _ (fun ds z => k _ z) z) q
end
end DL

set_option Elab.async false
set_option linter.all false
set_option maxRecDepth 100000
set_option maxHeartbeats 4000000
/-! operators, built-ins, calls, displays, tests over data -/
namespace DL
open PySem PySem.Spec PyProof.Rows L2
variable [Tb]

/-- what is new behind some growth is new -/
theorem RvR.from {K : PySem.W.Frag} {S O : List Addr} {H H1 H' : Hp} {v : V} {z : RV} (hs : ∀ a ∈ S, a ∈ O) (ht : ∀ a ∈ O, H1 a ≠ none) (x : Ext S H H1) (h : RvR K O H1 H' v z) : RvR K O H H' v z := by
  cases z with
  | va d => exact h
  | fr ds =>
    obtain ⟨p, xs, e1, e2, e3, e4⟩ := h
    refine ⟨p, xs, e1, ?_, e3, e4⟩
    cases q : H p with
    | none => rfl
    | some o =>
      by_cases z : p ∈ S
      · exact absurd e2 (ht p (hs p z))
      · rw [x.st p o z q] at e2; cases e2
  | fd es =>
    obtain ⟨p, xs, e1, e2, e3, e4⟩ := h
    refine ⟨p, xs, e1, ?_, e3, e4⟩
    cases q : H p with
    | none => rfl
    | some o =>
      by_cases z : p ∈ S
      · exact absurd e2 (ht p (hs p z))
      · rw [x.st p o z q] at e2; cases e2
abbrev RD2 := PyData → PyData → (RV → Prop) → Prop
abbrev RDn := List PyData → (RV → Prop) → Prop
/-- what the values' rule r asks follows from what the data's rule asks -/
def Br2 (K : PySem.W.Frag) (m1 m2 : Md) (r : R2) (rd : RD2) : Prop :=
  ∀ (S O : List Addr) (H : Hp) (x y : V) (d e : PyData) (Q : VK), (∀ a ∈ S, a ∈ O) → (∀ a ∈ O, H a ≠ none) →
    DM m1 K S O H x d → DM m2 K S O H y e → rd d e (fun z => ∀ v H', Same H H' → RvR K O H H' v z → Q v H') → r x y H Q
def BrN (K : PySem.W.Frag) (m : Md) (r : List V → Hp → VK → Prop) (rd : RDn) : Prop :=
  ∀ (S O : List Addr) (H : Hp) (xs : List V) (ds : List PyData) (Q : VK), (∀ a ∈ S, a ∈ O) → (∀ a ∈ O, H a ≠ none) →
    DMs m K S O H xs ds → rd ds (fun z => ∀ v H', Same H H' → RvR K O H H' v z → Q v H') → r xs H Q
def Mo2 (rd : RD2) : Prop := ∀ d e (Q Q' : RV → Prop), (∀ z, Q z → Q' z) → rd d e Q → rd d e Q'
def MoN (rd : RDn) : Prop := ∀ d (Q Q' : RV → Prop), (∀ z, Q z → Q' z) → rd d Q → rd d Q'
structure OpD (X : Cx) (f : Value → Value → Sem Value) (m1 m2 : Md) (rd : RD2) : Prop where
  ex : ∃ r, OpR X f r ∧ Br2 X.K m1 m2 r rd
  mo : Mo2 rd
structure CallD (X : Cx) (f : Value) (m : Md) (rd : RDn) : Prop where
  ex : ∃ r, CallR X f r ∧ BrN X.K m r rd
  mo : MoN rd
section
variable {X : Cx} {e a b : Expr} {es : List Expr} {m m1 m2 : Md} {pos p : Pos} {rd : RD2} {wa wb : WD}
def w2 (rd : RD2) (wa wb : WD) : WR := fun sd Q => wa sd fun d => wb sd fun e => rd d e Q
theorem w2_mo (h : Mo2 rd) (ha : Ev m1 X a wa) (hb : Ev m2 X b wb) : ∀ sd (Q Q' : RV → Prop), (∀ r, Q r → Q' r) → w2 rd wa wb sd Q → w2 rd wa wb sd Q' :=
  fun sd Q Q' k q => ha.mo _ _ _ (fun d z => hb.mo _ _ _ (fun e z => h d e _ _ k z) z) q
theorem w2_run {r : R2} (hr : Br2 X.K m1 m2 r rd) (hmo : Mo2 rd) (ha : Ev m1 X a wa) (hb : Ev m2 X b wb) {σ : L2.St} {H : Hp} {Q : VK} (q : tR X.K (w2 rd wa wb) σ H Q) :
    tOp r (tM m1 X.K wa) (tM m2 X.K wb) σ H Q := by
  obtain ⟨c, sd, os, hk, rr, q⟩ := q
  refine ⟨c, sd, os, hk, rr, ha.mo _ _ _ (fun d k v H1 x1 d1 => ⟨c, sd, os, hk, rr.grow x1, hb.mo _ _ _ (fun e k2 u H2 x2 d2 => ?_) k⟩) q⟩
  have x12 := x1.trans x2
  refine hr c.S (OO c os) H2 v u d e Q rr.sO (fun a m => (rr.grow x12).there m) (DM.grow rr.sO x2 d1) d2 (hmo _ _ _ _ (fun z kz v' H' s rv => ?_) k2)
  exact kz v' H' (x12.trans (Ext.of s)) (RvR.from rr.sO (fun a m => (rr.grow x12).there m) x12 rv)
theorem evr_op {op : Operator} (ho : OpD X (binaryOp op) m1 m2 rd) (ha : Ev m1 X a wa) (hb : Ev m2 X b wb) : EvR X (.BinOp a op b pos) (w2 rd wa wb) where
  pe := by
    obtain ⟨r, h1, h2⟩ := ho.ex
    exact PE.weak (pe_op h1 ha.pe hb.pe) fun σ H Q q => w2_run h2 ho.mo ha hb q
  mo := w2_mo ho.mo ha hb
theorem evr_cmp {op : CmpOp} (ho : OpD X (compareOp op) m1 m2 rd) (ha : Ev m1 X a wa) (hb : Ev m2 X b wb) (hm : behindInMarks op b = false := by first | exact nomark _ | rfl) :
    EvR X (.Compare a [op] [b] pos) (w2 rd wa wb) where
  pe := by
    obtain ⟨r, h1, h2⟩ := ho.ex
    exact PE.weak (pe_cmpR h1 ha.pe hb.pe hm) fun σ H Q q => w2_run h2 ho.mo ha hb q
  mo := w2_mo ho.mo ha hb
/-! ### the operators -/
def rdInt (C : Int → Int → Prop) (g : Int → Int → PyData) : RD2 := fun d e Q => match d, e with
  | .int i, .int j => C i j ∧ Q (.va (g i j))
  | _, _ => False
theorem rdInt_mo {C : Int → Int → Prop} {g : Int → Int → PyData} : Mo2 (rdInt C g) := by
  intro d e Q Q' k q
  unfold rdInt at q ⊢
  split at q
  · exact ⟨q.1, k _ q.2⟩
  · exact q.elim
theorem shInt {K : PySem.W.Frag} {S O : List Addr} {H : Hp} {x : V} {i : Int} (h : DM .sh K S O H x (.int i)) : x = .int i := by
  cases h
  rfl
theorem shStr {K : PySem.W.Frag} {S O : List Addr} {H : Hp} {x : V} {i : Str} (h : DM .sh K S O H x (.str i)) : x = .str i := by
  cases h
  rfl
theorem shBl {K : PySem.W.Frag} {S O : List Addr} {H : Hp} {x : V} {i : Bool} (h : DM .sh K S O H x (.bool i)) : x = .bl i := by
  cases h
  rfl
theorem shTup {K : PySem.W.Frag} {S O : List Addr} {H : Hp} {x : V} {ds : List PyData} (h : DM .sh K S O H x (.tuple ds)) : ∃ a xs, x = .ref a ∧ SqT K (hid O H) a xs ∧ DxAll K (hid O H) xs ds := by
  cases h with
  | tup h1 h2 => exact ⟨_, _, rfl, h1, h2⟩
theorem hid_sub {O : List Addr} {H : Hp} : Same (hid O H) H := fun a o h => (hid_some h).2
theorem opd_int {f : Value → Value → Sem Value} {C : Int → Int → Prop} {g : Int → Int → V} {g' : Int → Int → PyData} (h : OpR X f (rI C g)) (hg : ∀ K H i j, Dx K H (g i j) (g' i j)) : OpD X f .sh .sh (rdInt C g') where
  ex := ⟨_, h, fun S O H x y d e Q _ _ hx hy q => by
    unfold rdInt at q
    split at q
    · exact ⟨_, _, shInt hx, shInt hy, q.1, q.2 _ H (Same.refl H) (hg _ _ _ _)⟩
    · exact q.elim⟩
  mo := rdInt_mo
theorem opd_int0 {f : Value → Value → Sem Value} {g : Int → Int → V} {g' : Int → Int → PyData} (h : OpR X f (rI0 g)) (hg : ∀ K H i j, Dx K H (g i j) (g' i j)) : OpD X f .sh .sh (rdInt (fun _ _ => True) g') where
  ex := ⟨_, h, fun S O H x y d e Q _ _ hx hy q => by
    unfold rdInt at q
    split at q
    · exact ⟨_, _, shInt hx, shInt hy, q.2 _ H (Same.refl H) (hg _ _ _ _)⟩
    · exact q.elim⟩
  mo := rdInt_mo
theorem od_sub : OpD X (binaryOp .Sub) .sh .sh (rdInt (fun _ _ => True) fun i j => .int (i - j)) := opd_int0 op_sub fun _ _ _ _ => .int _
theorem od_mod : OpD X (binaryOp .Mod) .sh .sh (rdInt (fun _ j => 0 < j) fun i j => .int (i % j)) := opd_int op_mod fun _ _ _ _ => .int _
theorem od_fdiv : OpD X (binaryOp .FloorDiv) .sh .sh (rdInt CDivW fun i j => .int (i / j)) := opd_int op_fdivW fun _ _ _ _ => .int _
theorem od_lt : OpD X (compareOp .Lt) .sh .sh (rdInt (fun _ _ => True) fun i j => .bool (decide (i < j))) := opd_int0 op_lt fun _ _ _ _ => .bl _
theorem od_le : OpD X (compareOp .LtE) .sh .sh (rdInt (fun _ _ => True) fun i j => .bool (decide (i ≤ j))) := opd_int0 op_le fun _ _ _ _ => .bl _
theorem od_gt : OpD X (compareOp .Gt) .sh .sh (rdInt (fun _ _ => True) fun i j => .bool (decide (j < i))) := opd_int0 op_gt fun _ _ _ _ => .bl _
theorem od_ge : OpD X (compareOp .GtE) .sh .sh (rdInt (fun _ _ => True) fun i j => .bool (decide (j ≤ i))) := opd_int0 op_ge fun _ _ _ _ => .bl _
/-- + of ints, texts, tuples, lists -/
def rdAdd : RD2 := fun d e Q => match d, e with
  | .int i, .int j => Q (.va (.int (i + j)))
  | .str x, .str y => x.length + y.length ≤ sizeLine ∧ Q (.va (.str (x ++ y)))
  | .tuple xs, .tuple ys => xs.length + ys.length ≤ sizeLine ∧ Q (.va (.tuple (xs ++ ys)))
  | .list xs, .list ys => xs.length + ys.length ≤ sizeLine ∧ Q (.fr (xs ++ ys))
  | _, _ => False
theorem rdAdd_mo : Mo2 rdAdd := by
  intro d e Q Q' k q
  unfold rdAdd at q ⊢
  split at q <;> first | exact k _ q | exact ⟨q.1, k _ q.2⟩ | exact q.elim
theorem rv_tup {K : PySem.W.Frag} {O : List Addr} {H : Hp} {p : Addr} {xs : List V} {ds : List PyData} (hp : H p = none) (hO : ∀ a ∈ O, H a ≠ none) (h : DxAll K (hid O H) xs ds) : Dx K (hid O (upd H p (.tup xs))) (.ref p) (.tuple ds) := by
  have np : p ∉ O := fun z => hO p z hp
  refine .tup (.inl (.inl (by rw [hid_out np, upd_same]))) (DxAll.same (hid_same (fun a o _ e => same_new hp a o e) fun a m => .inl m) _ _ h)
theorem rv_lst {K : PySem.W.Frag} {O : List Addr} {H : Hp} {p : Addr} {xs : List V} {ds : List PyData} (hp : H p = none) (h : DxAll K (hid O H) xs ds) : RvR K O H (upd H p (.lst xs)) (.ref p) (.fr ds) := by
  refine ⟨p, xs, rfl, hp, upd_same, DxAll.same (hid_same (fun a o _ e => same_new hp a o e) fun a m => ?_) _ _ h⟩
  rcases List.mem_cons.mp m with rfl | m
  · exact .inr hp
  · exact .inl m
theorem od_add : OpD X (binaryOp .Add) .sh .sh rdAdd where
  ex := ⟨_, op_add.or (op_add_str.or (op_catA.or op_cat)), fun S O H x y d e Q hs hO hx hy q => by
    unfold rdAdd at q
    split at q
    · exact .inl ⟨_, _, shInt hx, shInt hy, q _ H (Same.refl H) (.int _)⟩
    · exact .inr (.inl ⟨_, _, shStr hx, shStr hy, q.1, q.2 _ H (Same.refl H) (.str _)⟩)
    · obtain ⟨a, us, rfl, h1, h2⟩ := shTup hx
      obtain ⟨b, ws, rfl, h3, h4⟩ := shTup hy
      refine .inr (.inr (.inl ⟨a, b, us, ws, rfl, rfl, SqT.same hid_sub h1, SqT.same hid_sub h3, by rw [h2.len, h4.len]; exact q.1, fun z => ?_, fun _ z => ?_, fun _ _ p hp => ?_⟩))
      · subst z
        cases h2
        exact q.2 _ H (Same.refl H) (.tup h3 h4)
      · subst z
        cases h4
        refine q.2 _ H (Same.refl H) ?_
        rw [List.append_nil]
        exact Dx.tup h1 h2
      · exact q.2 _ _ (same_new hp) (rv_tup hp hO (h2.app h4))
    · obtain ⟨a, us, rfl, h1, h2⟩ := hx
      obtain ⟨b, ws, rfl, h3, h4⟩ := hy
      exact .inr (.inr (.inr ⟨a, b, us, ws, rfl, rfl, (hid_some h1).2, (hid_some h3).2, by rw [h2.len, h4.len]; exact q.1, fun p hp => q.2 _ _ (same_new hp) (rv_lst hp (h2.app h4))⟩))
    · exact q.elim⟩
  mo := rdAdd_mo
/-- * of ints, of a list or a tuple and an int -/
def rdMul : RD2 := fun d e Q => match d, e with
  | .int i, .int j => (CMul i j ∨ CMulW i j) ∧ Q (.va (.int (i * j)))
  | .list xs, .int k => (0 ≤ k ∧ k ≤ 1000 ∧ xs.length ≤ 1000) ∧ Q (.fr (List.replicate k.toNat xs).flatten)
  | .tuple xs, .int k => (2 ≤ k ∧ k ≤ 1000 ∧ xs ≠ [] ∧ xs.length ≤ 1000) ∧ Q (.va (.tuple (List.replicate k.toNat xs).flatten))
  | _, _ => False
theorem DxAll.repl {K : PySem.W.Frag} {H : Hp} {vs : List V} {ds : List PyData} (h : DxAll K H vs ds) : ∀ n, DxAll K H (List.replicate n vs).flatten (List.replicate n ds).flatten
  | 0 => .nil
  | n + 1 => by
    rw [List.replicate_succ, List.replicate_succ, List.flatten_cons, List.flatten_cons]
    exact h.app (DxAll.repl h n)
theorem od_mul : OpD X (binaryOp .Mult) .sh .sh rdMul where
  ex := ⟨_, (op_mul.or op_mulW).or (op_rep.or op_repT), fun S O H x y d e Q hs hO hx hy q => by
    unfold rdMul at q
    split at q
    · rcases q.1 with q1 | q1
      · exact .inl (.inl ⟨_, _, shInt hx, shInt hy, q1, q.2 _ H (Same.refl H) (.int _)⟩)
      · exact .inl (.inr ⟨_, _, shInt hx, shInt hy, q1, q.2 _ H (Same.refl H) (.int _)⟩)
    · obtain ⟨a, us, rfl, h1, h2⟩ := hx
      obtain ⟨⟨q1, q2, q3⟩, q4⟩ := q
      rename_i xs k
      have hz : us.length * k.toNat ≤ 1000 * 1000 := Nat.mul_le_mul (by rw [h2.len]; exact q3) (by omega)
      exact .inr (.inl ⟨a, _, us, rfl, shInt hy, (hid_some h1).2, by omega, by omega, by rw [sizeLine_eq]; omega, fun p hp => q4 _ _ (same_new hp) (rv_lst hp (h2.repl _))⟩)
    · obtain ⟨a, us, rfl, h1, h2⟩ := shTup hx
      obtain ⟨⟨q1, q2, q3, q4⟩, q5⟩ := q
      refine .inr (.inr ⟨a, _, us, rfl, shInt hy, SqT.same hid_sub h1, fun z => ?_, q1, q2, by rw [h2.len]; exact q4, fun p hp => q5 _ _ (same_new hp) (rv_tup hp hO (h2.repl _))⟩)
      subst z
      cases h2
      exact q3 rfl
    · exact q.elim⟩
  mo := by
    intro d e Q Q' k q
    unfold rdMul at q ⊢
    split at q <;> first | exact ⟨q.1, k _ q.2⟩ | exact q.elim
/-- == and != of data -/
def rdEq (neg : Bool) : RD2 := fun d e Q => (SeqAt.shaped d = true ∧ SeqAt.shaped e = true) ∧ Q (.va (.bool (if neg then !PyData.eqv d e else PyData.eqv d e)))
theorem rdEq_mo {n : Bool} : Mo2 (rdEq n) := fun d e Q Q' k q => ⟨q.1, k _ q.2⟩
theorem lay_of {d : PyData} (h : SeqAt.shaped d = true) : d.canLay0 = true := by
  unfold SeqAt.shaped at h
  rw [Bool.and_eq_true] at h
  exact h.1
theorem boDp {K : PySem.W.Frag} {S O : List Addr} {H : Hp} {x : V} {d : PyData} (h : DM .bo K S O H x d) (n : SeqAt.shaped d = true) : Dp K H x d := Dx.dp _ _ (Dx.same hid_sub d x h) (lay_of n)
theorem od_eq (hu : X.A.units + 64 < cLine) : OpD X (compareOp .Eq) .bo .bo (rdEq false) where
  ex := ⟨_, op_eqD hu, fun S O H x y d e Q hs hO hx hy q => ⟨d, e, boDp hx q.1.1, boDp hy q.1.2, q.1.1, q.1.2, q.2 _ H (Same.refl H) (.bl _)⟩⟩
  mo := rdEq_mo
theorem od_ne (hu : X.A.units + 64 < cLine) : OpD X (compareOp .NotEq) .bo .bo (rdEq true) where
  ex := ⟨_, op_neD hu, fun S O H x y d e Q hs hO hx hy q => ⟨d, e, boDp hx q.1.1, boDp hy q.1.2, q.1.1, q.1.2, q.2 _ H (Same.refl H) (.bl _)⟩⟩
  mo := rdEq_mo
end
end DL

set_option Elab.async false
set_option linter.all false
set_option maxRecDepth 100000
set_option maxHeartbeats 4000000
/-! items, slices, built-ins, displays, calls, tests over data -/
namespace DL
open PySem PySem.Spec PyProof.Rows L2
variable [Tb]
section
variable {X : Cx} {e a b : Expr} {es : List Expr} {m m1 m2 : Md} {pos p : Pos} {rd : RD2} {wa wb : WD}
/-! ### items -/
structure IxD (X : Cx) (m1 m2 : Md) (rd : RD2) : Prop where
  ex : ∃ r, IxR X r ∧ Br2 X.K m1 m2 r rd
  mo : Mo2 rd
theorem evr_ix (ho : IxD X m1 m2 rd) (ha : Ev m1 X a wa) (hb : Ev m2 X b wb) (hs : PlainIx b := by exact fun _ _ => rfl) : EvR X (.Subscript a b pos) (w2 rd wa wb) where
  pe := by
    obtain ⟨r, h1, h2⟩ := ho.ex
    exact PE.weak (pe_ix h1 ha.pe hb.pe hs) fun σ H Q q => w2_run h2 ho.mo ha hb q
  mo := w2_mo ho.mo ha hb
def rdIxS : RD2 := fun d e Q => match d, e with
  | .list xs, .int i => match atI xs i with
    | some v => Q (.va v)
    | none => False
  | .tuple xs, .int i => match atI xs i with
    | some v => Q (.va v)
    | none => False
  | .str z, .int i => z.length ≤ sizeLine ∧ match atI z.cps.toList i with
    | some c => Q (.va (.str ⟨#[c]⟩))
    | none => False
  | _, _ => False
theorem rdIxS_mo : Mo2 rdIxS := by
  intro d e Q Q' k q
  unfold rdIxS at q ⊢
  split at q
  · split at q
    · exact k _ q
    · exact q.elim
  · split at q
    · exact k _ q
    · exact q.elim
  · refine ⟨q.1, ?_⟩
    have q2 := q.2
    split at q2
    · exact k _ q2
    · exact q2.elim
  · exact q.elim
theorem DxAll.atI {K : PySem.W.Frag} {H : Hp} {vs : List V} {ds : List PyData} (h : DxAll K H vs ds) {i : Int} {d : PyData} (e : L2.atI ds i = some d) : ∃ v, L2.atI vs i = some v ∧ Dx K H v d := by
  unfold L2.atI at e ⊢
  rw [h.len]
  cases q : ixN ds.length i with
  | none => rw [q] at e; cases e
  | some j =>
    rw [q] at e
    exact h.get (i := j) (d := d) e
theorem id_ixS_br : Br2 X.K .sh .sh (rIx X.K) rdIxS := fun S O H x y d e Q hs hO hx hy q => by
    unfold rdIxS at q
    split at q
    · rename_i xs i
      obtain ⟨a, us, rfl, h1, h2⟩ := hx
      cases at_ : L2.atI xs i with
      | none => rw [at_] at q; exact q.elim
      | some d =>
        rw [at_] at q
        obtain ⟨v, h3, h4⟩ := h2.atI at_
        exact .inl ⟨a, us, i, v, rfl, shInt hy, .inl (.inl (hid_some h1).2), h3, q v H (Same.refl H) h4⟩
    · rename_i xs i
      obtain ⟨a, us, rfl, h1, h2⟩ := shTup hx
      cases at_ : L2.atI xs i with
      | none => rw [at_] at q; exact q.elim
      | some d =>
        rw [at_] at q
        obtain ⟨v, h3, h4⟩ := h2.atI at_
        exact .inr (.inl ⟨a, us, i, v, rfl, shInt hy, SqT.same hid_sub h1, h3, q v H (Same.refl H) h4⟩)
    · rename_i z i
      obtain ⟨q1, q⟩ := q
      cases at_ : L2.atI z.cps.toList i with
      | none => rw [at_] at q; exact q.elim
      | some d =>
        rw [at_] at q
        exact .inr (.inr ⟨z, i, d, shStr hx, shInt hy, q1, at_, q _ H (Same.refl H) (.str _)⟩)
    · exact q.elim
theorem id_ixS : IxD X .sh .sh rdIxS := ⟨⟨_, ix_seq, id_ixS_br⟩, rdIxS_mo⟩
/-! ### dicts: what stands at a key -/
def lookD (es : List (PyData × PyData)) (d : PyData) : Option PyData := (es.find? fun p => p.1.eqv d).map (·.2)
def isKey : PyData → Bool
  | .int _ => true
  | .str _ => true
  | _ => false
theorem isKey_get {d : PyData} (h : isKey d = true) : ∃ k : Key, d = keyD k := by
  cases d with
  | int i => exact ⟨.inl i, rfl⟩
  | str z => exact ⟨.inr z, rfl⟩
  | _ => cases h
theorem dx_key {K : PySem.W.Frag} {H : Hp} {v : V} : ∀ {k : Key}, Dx K H v (keyD k) → v = kV k
  | .inl _, h => by cases h; rfl
  | .inr _, h => by cases h; rfl
theorem key_dx {K : PySem.W.Frag} {H : Hp} : ∀ k : Key, Dx K H (kV k) (keyD k)
  | .inl _ => .int _
  | .inr _ => .str _
theorem eqv_key : ∀ a b : Key, (keyD a).eqv (keyD b) = decide (a = b)
  | .inl i, .inl j => by simp only [keyD, PyData.eqv, Sum.inl.injEq]; rfl
  | .inr i, .inr j => by simp only [keyD, PyData.eqv, Sum.inr.injEq]; rfl
  | .inl i, .inr j => by simp [keyD, PyData.eqv]
  | .inr i, .inl j => by simp [keyD, PyData.eqv]
theorem lookD_val {K : PySem.W.Frag} {H : Hp} (k : Key) : ∀ (kvs : List (Key × V)) (es : List (PyData × PyData)), es.map (·.1) = kvs.map (fun p => keyD p.1) → DxAll K H (kvs.map (·.2)) (es.map (·.2)) →
    (valV kvs k = none ∧ lookD es (keyD k) = none) ∨ ∃ v d, valV kvs k = some v ∧ lookD es (keyD k) = some d ∧ Dx K H v d
  | [], [], _, _ => .inl ⟨rfl, rfl⟩
  | [], _ :: _, e, _ => by cases e
  | _ :: _, [], e, _ => by cases e
  | p :: kvs, q :: es, e, h => by
    rw [List.map_cons, List.map_cons] at e h
    injection e with e1 e2
    cases h with
    | cons h1 h2 =>
      unfold lookD
      rw [List.find?_cons, e1, eqv_key]
      by_cases z : p.1 = k
      · rw [decide_eq_true z, valV_pos z]
        exact .inr ⟨_, _, rfl, rfl, h1⟩
      · rw [decide_eq_false z, valV_neg z]
        exact lookD_val k kvs es e2 h2
theorem DE.look {K : PySem.W.Frag} {H : Hp} {o : HO} {es : List (PyData × PyData)} (h : DE K H o es) (k : Key) : ∃ kvs, o = .dK kvs ∧
    ((valV kvs k = none ∧ lookD es (keyD k) = none) ∨ ∃ v d, valV kvs k = some v ∧ lookD es (keyD k) = some d ∧ Dx K H v d) := by
  obtain ⟨vs, ⟨kvs, rfl, e1, rfl⟩, h⟩ := h
  exact ⟨kvs, rfl, lookD_val k kvs es e1 h⟩
theorem ix_dict {X : Cx} (hu : X.A.units + 1 < cLine) : IxR X (fun x y H Q => ∃ (a : Addr) (kvs : List (Key × V)) (k : Key) (v : V), x = .ref a ∧ y = kV k ∧ H a = some (.dK kvs) ∧ valV kvs k = some v ∧ Q v H) := by
  intro value slice pins s σ H x y v u Q I rx ry h hs
  obtain ⟨a, kvs, k, w, rfl, rfl, e, ev, q⟩ := h
  cases rx
  have g : DGet H a (kV k) (some w) := by rw [← ev]; exact DGet.k e
  exact tail_any (dict_typeIs I g) slot_dict_getitem.lookup (d_getItem hu I g ry fun w' s' I' r => ⟨w, H, I', r, q⟩) hs
def rdIx : RD2 := fun d e Q => match d, e with
  | .list xs, .int i => match atI xs i with
    | some v => Q (.va v)
    | none => False
  | .tuple xs, .int i => match atI xs i with
    | some v => Q (.va v)
    | none => False
  | .str z, .int i => z.length ≤ sizeLine ∧ match atI z.cps.toList i with
    | some c => Q (.va (.str ⟨#[c]⟩))
    | none => False
  | .dict es, k => isKey k = true ∧ match lookD es k with
    | some v => Q (.va v)
    | none => False
  | _, _ => False
theorem rdIx_old {d e : PyData} {Q : RV → Prop} (n : ∀ es, d ≠ .dict es) : rdIx d e Q ↔ rdIxS d e Q := by
  cases d with
  | dict es => exact absurd rfl (n es)
  | _ => cases e <;> exact Iff.rfl
theorem rdIx_mo : Mo2 rdIx := by
  intro d e Q Q' k q
  cases d with
  | dict es =>
    refine ⟨q.1, ?_⟩
    have q2 := q.2
    split at q2
    · exact k _ q2
    · exact q2.elim
  | _ => exact (rdIx_old (fun _ z => by cases z)).mpr (rdIxS_mo _ _ _ _ k ((rdIx_old (fun _ z => by cases z)).mp q))
theorem id_ix (hu : X.A.units + 64 < cLine) : IxD X .sh .sh rdIx where
  ex := ⟨_, ix_seq.or (ix_dict (Nat.lt_of_le_of_lt (by omega) hu)), fun S O H x y d e Q hs hO hx hy q => by
    have key : (∀ es, d ≠ .dict es) → rdIxS d e (fun z => ∀ v H', Same H H' → RvR X.K O H H' v z → Q v H') → rIx X.K x y H Q := fun _ q => by
      have := (id_ixS_br (X := X)) S O H x y d e Q hs hO hx hy q
      exact this
    cases d with
    | dict es =>
      obtain ⟨kb, q2⟩ := q
      obtain ⟨k, rfl⟩ := isKey_get kb
      obtain ⟨a, o, rfl, h1, h2⟩ := hx
      obtain ⟨kvs, rfl, h3 | ⟨v, d, h3, h4, h5⟩⟩ := h2.look k
      · rw [h3.2] at q2; exact q2.elim
      · rw [h4] at q2
        have hy : Dx X.K (hid O H) y (keyD k) := by cases k <;> exact hy
        exact .inr ⟨a, kvs, k, v, rfl, dx_key hy, (hid_some h1).2, h3, q2 v H (Same.refl H) h5⟩
    | _ => exact .inl (key (fun _ z => by cases z) ((rdIx_old (fun _ z => by cases z)).mp q))⟩
  mo := rdIx_mo

/-! ### slices -/
def cutD {α : Type} (xs : List α) (lo hi : Option Int) : List α := (xs.drop (HT.sIx xs.length 0 lo)).take (HT.sIx xs.length xs.length hi - HT.sIx xs.length 0 lo)
theorem DxAll.cut {K : PySem.W.Frag} {H : Hp} {vs : List V} {ds : List PyData} (h : DxAll K H vs ds) (lo hi : Option Int) : DxAll K H (cutV vs lo hi) (cutD ds lo hi) := by
  unfold cutV cutD
  rw [h.len]
  exact (h.drop _).take _
abbrev WO := SD → (Option Int → Prop) → Prop
def tO (K : PySem.W.Frag) (w : WO) : TO := fun σ H Q => ∃ (c : Cd) (sd : SD) (os : List (Option Addr)), c.K = K ∧ R c sd os σ H ∧
  w sd fun r => ∀ H', Ext c.S H H' → Q r H'
structure EvO (X : Cx) (e : Option Expr) (w : WO) : Prop where
  po : PO X e (tO X.K w)
  mo : ∀ sd (Q Q' : Option Int → Prop), (∀ r, Q r → Q' r) → w sd Q → w sd Q'
theorem PO.weak {e : Option Expr} {t t' : TO} (h : PO X e t) (k : ∀ σ H Q, t' σ H Q → t σ H Q) : PO X e t' :=
  ⟨fun pins s σ H Q I q => h.run pins s σ H Q I (k σ H Q q)⟩
theorem evo_none : EvO X none (fun _ Q => Q none) :=
  ⟨PO.weak po_none fun σ H Q ⟨c, sd, os, hk, r, q⟩ => q H Ext.refl, fun _ _ _ k q => k _ q⟩
def wPart (w : WD) : WO := fun sd Q => w sd fun d => match d with
  | .int i => Q (some i)
  | _ => False
theorem evo_some {w : WD} (h : Ev .sh X e w) : EvO X (some e) (wPart w) where
  po := PO.weak (po_some h.pe) fun σ H Q ⟨c, sd, os, hk, r, q⟩ => ⟨c, sd, os, hk, r, h.mo _ _ _ (fun d k v H' x dm => by
    cases d with
    | int i => exact ⟨i, shInt dm, k H' x⟩
    | _ => exact k.elim) q⟩
  mo := fun sd Q Q' k q => h.mo _ _ _ (fun d z => by
    cases d with
    | int i => exact k _ z
    | _ => exact z.elim) q
def rdSl (d : PyData) (lo hi : Option Int) (Q : RV → Prop) : Prop := match d with
  | .list xs => Q (.fr (cutD xs lo hi))
  | .tuple xs => Q (.va (.tuple (cutD xs lo hi)))
  | .str z => z.length ≤ sizeLine ∧ Q (.va (.str (cutS z lo hi)))
  | _ => False
theorem evr_slice {lo hi : Option Expr} {p2 : Pos} {wl wh : WO} (ha : Ev .sh X a wa) (hl : EvO X lo wl) (hh : EvO X hi wh) :
    EvR X (.Subscript a (.Slice lo hi none p2) pos) (fun sd Q => wa sd fun d => wl sd fun l => wh sd fun h => rdSl d l h Q) where
  pe := PE.weak (pe_slice (sl_list.or (sl_tupA.or sl_str)) ha.pe hl.po hh.po) fun σ H Q ⟨c, sd, os, hk, r, q⟩ =>
    ⟨c, sd, os, hk, r, ha.mo _ _ _ (fun d k v H1 x1 d1 => ⟨c, sd, os, hk, r.grow x1, hl.mo _ _ _ (fun l k2 H2 x2 =>
      ⟨c, sd, os, hk, r.grow (x1.trans x2), hh.mo _ _ _ (fun h k3 H3 x3 => by
        have x := (x1.trans x2).trans x3
        have rr := r.grow x
        have d3 := DM.grow r.sO (x2.trans x3) d1
        have ht : ∀ a ∈ OO c os, H3 a ≠ none := fun a m => rr.there m
        unfold rdSl at k3
        split at k3
        · obtain ⟨a, us, rfl, h1, h2⟩ := d3
          exact .inl ⟨a, us, rfl, .inl (.inl (hid_some h1).2), fun p hp => k3 _ _ (x.trans (Ext.of (same_new hp))) (RvR.from r.sO ht x (rv_lst hp (h2.cut _ _)))⟩
        · obtain ⟨a, us, rfl, h1, h2⟩ := shTup d3
          refine .inr (.inl ⟨a, us, rfl, SqT.same hid_sub h1, fun z => ?_, fun _ p hp => k3 _ _ (x.trans (Ext.of (same_new hp))) (rv_tup hp ht (h2.cut _ _))⟩)
          refine k3 _ H3 x (.tup h1 ?_)
          have e : cutV us l h = us := by
            unfold cutV
            rw [z.1, z.2]
            simp
          rw [← e]
          exact h2.cut _ _
        · exact .inr (.inr ⟨_, shStr d3, k3.1, k3.2 _ H3 x (.str _)⟩)
        · exact k3.elim) k2⟩) k⟩) q⟩
  mo := fun sd Q Q' k q => ha.mo _ _ _ (fun d z => hl.mo _ _ _ (fun l z => hh.mo _ _ _ (fun h z => by
    unfold rdSl at z ⊢
    split at z <;> first | exact k _ z | exact ⟨z.1, k _ z.2⟩ | exact z.elim) z) z) q
end
end DL

set_option Elab.async false
set_option linter.all false
set_option maxRecDepth 100000
set_option maxHeartbeats 4000000
/-! calls, displays, tests over data -/
namespace DL
open PySem PySem.Spec PyProof.Rows L2
variable [Tb]

/-! ### arguments and promises -/
inductive AV where
  | va (d : PyData)
  | so
  | fn (f : Addr)
inductive DAs (m : Md) (K : PySem.W.Frag) (S O : List Addr) (H : Hp) : List V → List AV → Prop
  | nil : DAs m K S O H [] []
  | va {v : V} {vs : List V} {d : PyData} {as : List AV} : DM m K S O H v d → DAs m K S O H vs as → DAs m K S O H (v :: vs) (.va d :: as)
  | so {x y : Addr} {vs : List V} {as : List AV} : S = x :: y :: Tb.Ts → DAs m K S O H vs as → DAs m K S O H (V.ref x :: vs) (.so :: as)
  | fn {f : Addr} {vs : List V} {as : List AV} : DAs m K S O H vs as → DAs m K S O H (V.ref f :: vs) (.fn f :: as)
theorem DAs.grow {m : Md} {K : PySem.W.Frag} {S O : List Addr} {H H' : Hp} (hs : ∀ a ∈ S, a ∈ O) (x : Ext S H H') : ∀ {vs : List V} {ds : List AV}, DAs m K S O H vs ds → DAs m K S O H' vs ds
  | _, _, .nil => .nil
  | _, _, .va h t => .va (DM.grow hs x h) (DAs.grow hs x t)
  | _, _, .so h t => .so h (DAs.grow hs x t)
  | _, _, .fn t => .fn (DAs.grow hs x t)
theorem DAs.bo {K : PySem.W.Frag} {S O : List Addr} {H : Hp} : ∀ {vs : List V} {ds : List AV}, DAs .bo K S O H vs ds → DAs .cl K S S H vs ds
  | _, _, .nil => .nil
  | _, _, .va h t => .va h (DAs.bo t)
  | _, _, .so h t => .so h (DAs.bo t)
  | _, _, .fn t => .fn (DAs.bo t)
theorem DAs.len {m : Md} {K : PySem.W.Frag} {S O : List Addr} {H : Hp} : ∀ {vs : List V} {ds : List AV}, DAs m K S O H vs ds → vs.length = ds.length
  | _, _, .nil => rfl
  | _, _, .va h t => by rw [List.length_cons, List.length_cons, DAs.len t]
  | _, _, .so h t => by rw [List.length_cons, List.length_cons, DAs.len t]
  | _, _, .fn t => by rw [List.length_cons, List.length_cons, DAs.len t]
abbrev FSp := List AV → (RV → Prop) → Prop
def MoF (fs : FSp) : Prop := ∀ as (Q Q' : RV → Prop), (∀ r, Q r → Q' r) → fs as Q → fs as Q'
/-- a def's promise in data -/
def PSp (K : PySem.W.Frag) (n : Nat) (fs : FSp) : Sp := fun vs H Q _ => ∃ (S Oc : List Addr) (as : List AV), SrcOk H S ∧ (∀ a ∈ S, a ∈ Oc) ∧ OcOk H S Oc ∧
  DAs .cl K S Oc H vs as ∧ as.length = n ∧ fs as fun r => ∀ v H', Ext S H H' → RvR K Oc H H' v r → Q v H'
abbrev WA := SD → (List AV → Prop) → Prop
def tAr (m : Md) (K : PySem.W.Frag) (w : WA) : TA := fun σ H Q => ∃ (c : Cd) (sd : SD) (os : List (Option Addr)), c.K = K ∧ R c sd os σ H ∧
  w sd fun ds => ∀ vs H', Ext c.S H H' → DAs m K c.S (OO c os) H' vs ds → Q vs H'
structure EvA (m : Md) (X : Cx) (es : List Expr) (w : WA) : Prop where
  pa : PA X es (tAr m X.K w)
  mo : ∀ sd (Q Q' : List AV → Prop), (∀ r, Q r → Q' r) → w sd Q → w sd Q'
mutual
def noL : PyData → Bool
  | .list _ => false
  | .dict _ => false
  | .tuple ds => noLs ds
  | _ => true
def noLs : List PyData → Bool
  | [] => true
  | d :: ds => noL d && noLs ds
end
@[reducible] def RV.noL : RV → Bool
  | .va d => DL.noL d
  | .fr ds => noLs ds
  | .fd _ => false
section
variable {K : PySem.W.Frag} {S O : List Addr} {H : Hp}
theorem SqT.out {a : Addr} {xs : List V} (oc : OcOk H S O) (h : SqT K (hid S H) a xs) : SqT K (hid O H) a xs := by
  have key : ∀ {u : HO}, hid S H a = some u → ¬ IsOwn u → hid O H a = some u := by
    intro u e n
    obtain ⟨m, e⟩ := hid_some e
    rw [hid_out]
    · exact e
    · intro z
      rcases oc a z with q | ⟨o, q, w⟩
      · exact m q
      · rw [e] at q; cases q; exact n w
  rcases h with (h | ⟨o, h⟩) | h
  · exact .inl (.inl (key h fun z => z.1 _ rfl))
  · exact .inl (.inr ⟨o, key h fun z => z.2 _ _ rfl⟩)
  · exact .inr h
mutual
theorem Dx.out (oc : OcOk H S O) : ∀ (d : PyData) (v : V), Dx K (hid S H) v d → noL d = true → Dx K (hid O H) v d
  | _, _, .non, _ => .non
  | _, _, .bl b, _ => .bl b
  | _, _, .int i, _ => .int i
  | _, _, .str x, _ => .str x
  | _, _, .lst _ _, n => by simp [noL] at n
  | _, _, .dct _ _ _, n => by simp [noL] at n
  | _, _, .tup (ds := ds) h q, n => .tup (SqT.out oc h) (DxAll.out oc ds _ q (by simpa [noL] using n))
theorem DxAll.out (oc : OcOk H S O) : ∀ (ds : List PyData) (vs : List V), DxAll K (hid S H) vs ds → noLs ds = true → DxAll K (hid O H) vs ds
  | _, _, .nil, _ => .nil
  | _, _, .cons (d := d) (ds := ds) h q, n => by
    simp only [noLs, Bool.and_eq_true] at n
    exact .cons (Dx.out oc d _ h n.1) (DxAll.out oc ds _ q n.2)
end
end

section
variable {X : Cx} {e a b : Expr} {es : List Expr} {m m1 m2 : Md} {pos p : Pos}
theorem eva_nil : EvA m X [] (fun _ Q => Q []) :=
  ⟨PA.weak pa_nil fun σ H Q ⟨c, sd, os, hk, r, q⟩ => q [] H Ext.refl .nil, fun _ _ _ k q => k _ q⟩
theorem eva_cons {w : WD} {ws : WA} (h : Ev m X e w) (t : EvA m X es ws) (hs : starEach (e :: es) X.env = (false, eval e X.env) :: starEach es X.env := by rfl) :
    EvA m X (e :: es) (fun sd Q => w sd fun d => ws sd fun ds => Q (.va d :: ds)) where
  pa := PA.weak (pa_cons h.pe t.pa hs) fun σ H Q ⟨c, sd, os, hk, r, q⟩ =>
    ⟨c, sd, os, hk, r, h.mo _ _ _ (fun d k v H1 x1 d1 => ⟨c, sd, os, hk, r.grow x1, t.mo _ _ _ (fun ds k2 vs H2 x2 d2 =>
      k2 (v :: vs) H2 (x1.trans x2) (.va (DM.grow r.sO x2 d1) d2)) k⟩) q⟩
  mo := fun sd Q Q' k q => h.mo _ _ _ (fun d z => t.mo _ _ _ (fun ds z => k _ z) z) q
def wSo (i : Nat) (ws : WA) : WA := fun sd Q => match getS sd i with
  | .so => ws sd fun ds => Q (.so :: ds)
  | _ => False
theorem eva_so {ws : WA} {x : Str} (i : Nat) (t : EvA m X es ws) (hN : X.N[i]? = some x := by rfl)
    (hv : Vis X.env.scope x := by first | exact Or.inl rfl | exact Or.inr (Or.inl rfl) | exact Or.inr (Or.inr rfl))
    (hd : (x == ("__debug__" : Str)) = false := by decide) (hcd : (x == ("__classdict__" : Str)) = false := by decide)
    (hs : starEach (.Name x pos :: es) X.env = (false, eval (.Name x pos) X.env) :: starEach es X.env := by rfl) : EvA m X (.Name x pos :: es) (wSo i ws) where
  pa := PA.weak (pa_cons (pe_var hN hv hd hcd) t.pa hs) fun σ H Q ⟨c, sd, os, hk, r, q⟩ => by
    unfold wSo at q
    cases e : getS sd i with
    | so =>
      rw [e] at q
      obtain ⟨v, oa, h1, h2, h3, x, y, h4, rfl⟩ := r.at_ e (by intro z; cases z)
      exact ⟨_, h1, c, sd, os, hk, r, t.mo _ _ _ (fun ds k2 vs H2 x2 d2 => k2 _ H2 x2 (.so h4 d2)) q⟩
    | un => rw [e] at q; exact q.elim
    | fn _ => rw [e] at q; exact q.elim
    | od _ => rw [e] at q; exact q.elim
    | va d => rw [e] at q; exact q.elim
    | ow ds => rw [e] at q; exact q.elim
  mo := fun sd Q Q' k q => by
    unfold wSo at q ⊢
    cases e : getS sd i with
    | so => rw [e] at q; exact t.mo _ _ _ (fun ds z => k _ z) q
    | fn _ => rw [e] at q; exact q.elim
    | od _ => rw [e] at q; exact q.elim
    | un => rw [e] at q; exact q.elim
    | va d => rw [e] at q; exact q.elim
    | ow ds => rw [e] at q; exact q.elim

/-! ### calls of one's own defs -/
section
variable {k n : Nat} {f : Addr} {fd : FuncData} {ps : List Str} {fs : FSp} {x : Str} {wa : WA}
theorem evr_call (F : FnG X.prog X.w X.K X.mg X.base CX0 k f fd ps (PSp X.K n fs)) (hmo : MoF fs) (hr : RmG k X.A) (hm : X.mg x = some (.ref f))
    (hk : PySem.W.keepIn X.K (.ref f) = true) (hb : Binds X.K fd ps []) (ha : EvA .cl X (e :: es) wa) (hg : Gl X x := by rfl)
    (hdb : (x == ("__debug__" : Str)) = false := by decide)
    (he : starEach (e :: es) X.env = (false, eval e X.env) :: starEach es X.env := by rfl)
    (hpl : (backTo pos (starEach es X.env)).any (·.1) = false := by rfl) :
    EvR X (.Call (.Name x p) (e :: es) [] pos) (fun sd Q => wa sd fun as => as.length = n ∧ fs as Q) where
  pe := PE.weak (pe_callG F hr hg hm hk hb pass0 ha.pa hdb he hpl) fun σ H Q ⟨c, sd, os, hk, r, q⟩ =>
    ⟨c, sd, os, hk, r, ha.mo _ _ _ (fun as kq vs H1 x1 d1 => ⟨c.S, OO c os, as, (r.grow x1).srcNow, r.sO, (r.grow x1).ocNow, d1, kq.1, hmo _ _ _ (fun z kz v H' x2 rv =>
      kz v H' (x1.trans x2) (RvR.from r.sO (fun a m => (r.grow x1).there m) x1 rv)) kq.2⟩) q⟩
  mo := fun sd Q Q' k q => ha.mo _ _ _ (fun as z => ⟨z.1, hmo _ _ _ k z.2⟩) q
/-- the arguments may be lists of one's own: then nothing that holds a list comes back -/
theorem evr_callB (F : FnG X.prog X.w X.K X.mg X.base CX0 k f fd ps (PSp X.K n fs)) (hmo : MoF fs) (hr : RmG k X.A) (hm : X.mg x = some (.ref f))
    (hk : PySem.W.keepIn X.K (.ref f) = true) (hb : Binds X.K fd ps []) (ha : EvA .bo X (e :: es) wa) (hg : Gl X x := by rfl)
    (hdb : (x == ("__debug__" : Str)) = false := by decide)
    (he : starEach (e :: es) X.env = (false, eval e X.env) :: starEach es X.env := by rfl)
    (hpl : (backTo pos (starEach es X.env)).any (·.1) = false := by rfl) :
    EvR X (.Call (.Name x p) (e :: es) [] pos) (fun sd Q => wa sd fun as => as.length = n ∧ fs as fun r => r.noL = true ∧ Q r) where
  pe := PE.weak (pe_callG F hr hg hm hk hb pass0 ha.pa hdb he hpl) fun σ H Q ⟨c, sd, os, hk, r, q⟩ =>
    ⟨c, sd, os, hk, r, ha.mo _ _ _ (fun as kq vs H1 x1 d1 => ⟨c.S, c.S, as, (r.grow x1).srcNow, fun _ h => h, fun a m => .inl m, d1.bo, kq.1, hmo _ _ _ (fun z kz v H' x2 rv => by
      have rr := r.grow (x1.trans x2)
      refine kz.2 v H' (x1.trans x2) (RvR.from r.sO (fun a m => (r.grow x1).there m) x1 ?_)
      cases z with
      | va d => exact Dx.out rr.ocNow _ _ rv kz.1
      | fr ds =>
        obtain ⟨p, xs, e1, e2, e3, e4⟩ := rv
        refine ⟨p, xs, e1, e2, e3, DxAll.out (S := c.S) (fun a m => ?_) _ _ (DxAll.same (hid_same (fun _ _ _ h => h) fun a m => .inl (List.mem_cons_of_mem _ m)) _ _ e4) kz.1⟩
        rcases List.mem_cons.mp m with rfl | m
        · exact .inr ⟨_, e3, own_lst⟩
        · exact rr.ocNow a m
      | fd es => exact (Bool.false_ne_true kz.1).elim) kq.2⟩) q⟩
  mo := fun sd Q Q' k q => ha.mo _ _ _ (fun as z => ⟨z.1, hmo _ _ _ (fun r y => ⟨y.1, k _ y.2⟩) z.2⟩) q
end

/-! ### built-ins -/
section
variable {rd : RDn} {wl : WL} {x : Str}
theorem wn_run {r : List V → Hp → VK → Prop} (hr : BrN X.K m r rd) (hmo : MoN rd) (ha : EvL m X es wl) {σ : L2.St} {H : Hp} {Q : VK} (q : tR X.K (fun sd Q => wl sd fun ds => rd ds Q) σ H Q) :
    tLi m X.K wl σ H fun xs H1 => r xs H1 Q := by
  obtain ⟨c, sd, os, hk, rr, q⟩ := q
  refine ⟨c, sd, os, hk, rr, ha.mo _ _ _ (fun ds k vs H1 x1 d1 => ?_) q⟩
  exact hr c.S (OO c os) H1 vs ds Q rr.sO (fun a m => (rr.grow x1).there m) d1 (hmo _ _ _ (fun z kz v' H' s rv => kz v' H' (x1.trans (Ext.of s)) (RvR.from rr.sO (fun a m => (rr.grow x1).there m) x1 rv)) k)
theorem evr_blt {id : String} (hc : CallD X (.builtin id) m rd) (hm : X.mg x = none) (hv : bootBuiltins x = some (.builtin id)) (ha : EvL m X (e :: es) wl) (hg : Gl X x := by rfl) (hn : x ≠ "__name__" := by decide) (hdb : (x == ("__debug__" : Str)) = false := by decide)
    (he : starEach (e :: es) X.env = (false, eval e X.env) :: starEach es X.env := by rfl) (hpl : (backTo pos (starEach es X.env)).any (·.1) = false := by rfl) :
    EvR X (.Call (.Name x p) (e :: es) [] pos) (fun sd Q => wl sd fun ds => rd ds Q) where
  pe := by
    obtain ⟨r, h1, h2⟩ := hc.ex
    exact PE.weak (pe_callB h1 hg hm hv ha.pa (hn := hn) (hdb := hdb) (he := he) (hpl := hpl)) fun σ H Q q => wn_run h2 hc.mo ha q
  mo := fun sd Q Q' k q => ha.mo _ _ _ (fun ds z => hc.mo _ _ _ k z) q
theorem evr_typ {id : String} (hc : CallD X (.type id) m rd) (hm : X.mg x = none) (hv : bootBuiltins x = some (.type id)) (ha : EvL m X (e :: es) wl) (hg : Gl X x := by rfl) (hn : x ≠ "__name__" := by decide) (hdb : (x == ("__debug__" : Str)) = false := by decide)
    (he : starEach (e :: es) X.env = (false, eval e X.env) :: starEach es X.env := by rfl) (hpl : (backTo pos (starEach es X.env)).any (·.1) = false := by rfl) :
    EvR X (.Call (.Name x p) (e :: es) [] pos) (fun sd Q => wl sd fun ds => rd ds Q) where
  pe := by
    obtain ⟨r, h1, h2⟩ := hc.ex
    exact PE.weak (pe_callTy h1 hg hm hv ha.pa (hn := hn) (hdb := hdb) (he := he) (hpl := hpl)) fun σ H Q q => wn_run h2 hc.mo ha q
  mo := fun sd Q Q' k q => ha.mo _ _ _ (fun ds z => hc.mo _ _ _ k z) q
end
end
end DL

set_option Elab.async false
set_option linter.all false
set_option maxRecDepth 100000
set_option maxHeartbeats 4000000
/-! the built-ins one by one; displays; tests -/
namespace DL
open PySem PySem.Spec PyProof.Rows L2
variable [Tb]
section
variable {X : Cx} {e a b : Expr} {es : List Expr} {m m1 m2 : Md} {pos p : Pos}
/-! ### one-argument built-ins -/
def rd1 (f : PyData → (RV → Prop) → Prop) : RDn := fun ds Q => match ds with
  | [d] => f d Q
  | _ => False
theorem rd1_mo {f : PyData → (RV → Prop) → Prop} (h : ∀ d (Q Q' : RV → Prop), (∀ z, Q z → Q' z) → f d Q → f d Q') : MoN (rd1 f) := by
  intro ds Q Q' k q
  unfold rd1 at q ⊢
  split at q
  · exact h _ _ _ k q
  · exact q.elim
theorem rd1_br {K : PySem.W.Frag} {r : List V → Hp → VK → Prop} {f : PyData → (RV → Prop) → Prop}
    (h : ∀ (S O : List Addr) (H : Hp) (x : V) (d : PyData) (Q : VK), (∀ a ∈ S, a ∈ O) → (∀ a ∈ O, H a ≠ none) → DM m K S O H x d → f d (fun z => ∀ v H', Same H H' → RvR K O H H' v z → Q v H') → r [x] H Q) :
    BrN K m r (rd1 f) := by
  intro S O H xs ds Q hs hO hd q
  unfold rd1 at q
  split at q
  · cases hd with
    | cons h1 h2 =>
      cases h2
      exact h S O H _ _ Q hs hO h1 q
  · exact q.elim
def dLen (d : PyData) (Q : RV → Prop) : Prop := match d with
  | .list xs => Q (.va (.int xs.length))
  | .tuple xs => Q (.va (.int xs.length))
  | .str z => z.length ≤ sizeLine ∧ Q (.va (.int z.length))
  | _ => False
theorem cd_len : CallD X (.builtin "len") .sh (rd1 dLen) where
  ex := ⟨_, call_len_seq.or call_len_str, rd1_br fun S O H x d Q hs hO hd q => by
    unfold dLen at q
    split at q
    · obtain ⟨a, us, rfl, h1, h2⟩ := hd
      exact .inl ⟨a, us, rfl, .inl (.inl (.inl (hid_some h1).2)), q _ H (Same.refl H) (by rw [h2.len]; exact Dx.int _)⟩
    · obtain ⟨a, us, rfl, h1, h2⟩ := shTup hd
      exact .inl ⟨a, us, rfl, .inr (SqT.same hid_sub h1), q _ H (Same.refl H) (by rw [h2.len]; exact Dx.int _)⟩
    · exact .inr ⟨_, by rw [shStr hd], q.1, q.2 _ H (Same.refl H) (.int _)⟩
    · exact q.elim⟩
  mo := rd1_mo fun d Q Q' k q => by
    unfold dLen at q ⊢
    split at q <;> first | exact k _ q | exact ⟨q.1, k _ q.2⟩ | exact q.elim
def dTuple (d : PyData) (Q : RV → Prop) : Prop := match d with
  | .list xs => Q (.va (.tuple xs))
  | .tuple xs => Q (.va (.tuple xs))
  | _ => False
theorem cd_tuple : CallD X (.type "tuple") .sh (rd1 dTuple) where
  ex := ⟨_, call_tuple_of, rd1_br fun S O H x d Q hs hO hd q => by
    unfold dTuple at q
    split at q
    · obtain ⟨a, us, rfl, h1, h2⟩ := hd
      exact ⟨a, us, rfl, .inl ⟨.inl (.inl (hid_some h1).2), fun p hp => q _ _ (same_new hp) (rv_tup hp hO h2)⟩⟩
    · obtain ⟨a, us, rfl, h1, h2⟩ := shTup hd
      exact ⟨a, us, rfl, .inr ⟨SqT.same hid_sub h1, q _ H (Same.refl H) (.tup h1 h2)⟩⟩
    · exact q.elim⟩
  mo := rd1_mo fun d Q Q' k q => by
    unfold dTuple at q ⊢
    split at q <;> first | exact k _ q | exact q.elim
def dList (d : PyData) (Q : RV → Prop) : Prop := match d with
  | .list xs => Q (.fr xs)
  | .tuple xs => Q (.fr xs)
  | _ => False
theorem cd_list : CallD X (.type "list") .sh (rd1 dList) where
  ex := ⟨_, call_list_of, rd1_br fun S O H x d Q hs hO hd q => by
    unfold dList at q
    split at q
    · obtain ⟨a, us, rfl, h1, h2⟩ := hd
      exact ⟨a, us, rfl, .inl (.inl (.inl (hid_some h1).2)), fun p hp => q _ _ (same_new hp) (rv_lst hp h2)⟩
    · obtain ⟨a, us, rfl, h1, h2⟩ := shTup hd
      exact ⟨a, us, rfl, .inr (SqT.same hid_sub h1), fun p hp => q _ _ (same_new hp) (rv_lst hp h2)⟩
    · exact q.elim⟩
  mo := rd1_mo fun d Q Q' k q => by
    unfold dList at q ⊢
    split at q <;> first | exact k _ q | exact q.elim
/-- the text of data -/
def okShow (d : PyData) : Prop := (d.showable = true ∧ SeqAt.shaped d = true) ∧ d.shown.length ≤ sizeLine
def dRepr (d : PyData) (Q : RV → Prop) : Prop := okShow d ∧ Q (.va (.str d.shown))
theorem cd_repr (hr : RmG 1 X.A) : CallD X (.builtin "repr") .bo (rd1 dRepr) where
  ex := ⟨_, call_reprD hr.gd (by have := hr.rm.un; omega), rd1_br fun S O H x d Q hs hO hd q =>
    ⟨x, d, rfl, boDp hd q.1.1.2, q.1.1.1, q.1.1.2, q.1.2, q.2 _ H (Same.refl H) (.str _)⟩⟩
  mo := rd1_mo fun d Q Q' k q => ⟨q.1, k _ q.2⟩
def dInt (d : PyData) (Q : RV → Prop) : Prop := match d with
  | .int i => Q (.va (.int i))
  | .bool b => Q (.va (.int (if b then 1 else 0)))
  | _ => False
theorem cd_int : CallD X (.type "int") .sh (rd1 dInt) where
  ex := ⟨_, call_int1, rd1_br fun S O H x d Q hs hO hd q => by
    unfold dInt at q
    split at q
    · exact .inl ⟨_, by rw [shInt hd], q _ H (Same.refl H) (.int _)⟩
    · exact .inr ⟨_, by rw [shBl hd], q _ H (Same.refl H) (.int _)⟩
    · exact q.elim⟩
  mo := rd1_mo fun d Q Q' k q => by
    unfold dInt at q ⊢
    split at q <;> first | exact k _ q | exact q.elim
def dAbs (d : PyData) (Q : RV → Prop) : Prop := match d with
  | .int i => Q (.va (.int (if i < 0 then -i else i)))
  | _ => False
theorem cd_abs : CallD X (.builtin "abs") .sh (rd1 dAbs) where
  ex := ⟨_, call_abs, rd1_br fun S O H x d Q hs hO hd q => by
    unfold dAbs at q
    split at q
    · exact ⟨_, by rw [shInt hd], q _ H (Same.refl H) (.int _)⟩
    · exact q.elim⟩
  mo := rd1_mo fun d Q Q' k q => by
    unfold dAbs at q ⊢
    split at q <;> first | exact k _ q | exact q.elim

/-! ### displays -/
theorem ev_tup {wl : WL} {x1} (h : EvL .cl X es wl) : EvR X (.Tuple es x1 pos) (fun sd Q => wl sd fun ds => ds.length ≤ sizeLine ∧ Q (.va (.tuple ds))) where
  pe := PE.weak (pe_tup h.pa) fun σ H Q ⟨c, sd, os, hk, r, q⟩ => ⟨c, sd, os, hk, r, h.mo _ _ _ (fun ds k vs H1 x1 d1 => by
    have da := DMs.all r.sO d1
    refine ⟨by rw [da.len]; exact k.1, fun p hp => k.2 _ _ (x1.trans (Ext.of (same_new hp))) (rv_tup hp (fun a m => (r.grow x1).there m) da)⟩) q⟩
  mo := fun sd Q Q' k q => h.mo _ _ _ (fun ds z => ⟨z.1, k _ z.2⟩) q
theorem ev_lst {wl : WL} (h : EvL .cl X es wl) : EvR X (.List es pos) (fun sd Q => wl sd fun ds => ds.length ≤ sizeLine ∧ Q (.fr ds)) where
  pe := PE.weak (pe_lst h.pa) fun σ H Q ⟨c, sd, os, hk, r, q⟩ => ⟨c, sd, os, hk, r, h.mo _ _ _ (fun ds k vs H1 x1 d1 => by
    have da := DMs.all r.sO d1
    refine ⟨by rw [da.len]; exact k.1, fun p hp => k.2 _ _ (x1.trans (Ext.of (same_new hp))) (RvR.from r.sO (fun a m => (r.grow x1).there m) x1 (rv_lst hp da))⟩) q⟩
  mo := fun sd Q Q' k q => h.mo _ _ _ (fun ds z => ⟨z.1, k _ z.2⟩) q

/-! ### tests -/
def truD : PyData → Option Bool
  | .none => some false
  | .bool b => some b
  | .int i => some (i != 0)
  | .list ds => some (!ds.isEmpty)
  | .tuple ds => some (!ds.isEmpty)
  | _ => none
def wTru (w : WD) : WB := fun sd Q => w sd fun d => match truD d with
  | some b => Q b
  | none => False
theorem DxAll.emp {K : PySem.W.Frag} {H : Hp} {vs : List V} {ds : List PyData} (h : DxAll K H vs ds) : vs.isEmpty = ds.isEmpty := by
  cases h <;> rfl
theorem tru_run {w : WD} (h : Ev .sh X e w) {σ : L2.St} {H : Hp} {Q : Bool → Hp → Prop} (q : tTe X.K (wTru w) σ H Q) : tM .sh X.K w σ H fun x H' => ∃ k, TruV X.K x H' k ∧ Q k H' := by
  obtain ⟨c, sd, os, hk, r, q⟩ := q
  refine ⟨c, sd, os, hk, r, h.mo _ _ _ (fun d k v H1 x1 dm => ?_) q⟩
  cases d with
  | none => cases dm; exact ⟨_, rfl, k H1 x1⟩
  | bool b => cases dm; exact ⟨_, rfl, k H1 x1⟩
  | int i => cases dm; exact ⟨_, rfl, k H1 x1⟩
  | str z => exact k.elim
  | dict z => exact k.elim
  | list ds =>
    obtain ⟨a, us, rfl, h1, h2⟩ := dm
    exact ⟨_, .inl ⟨us, .inl (.inl (hid_some h1).2), by rw [h2.emp]⟩, k H1 x1⟩
  | tuple ds =>
    obtain ⟨a, us, rfl, h1, h2⟩ := shTup dm
    exact ⟨_, .inr (.inl ⟨us, SqT.same hid_sub h1, by rw [h2.emp]⟩), k H1 x1⟩
theorem evt_tru {w : WD} (h : Ev .sh X e w) (he : ∀ whole, isTrue e X.env whole = (do let v ← whole; standAt e.pos; holding [v] (truthy v)) := by intro _; rfl) : EvT X e (wTru w) where
  pt := PT.weak (pt_truth h.pe he) fun σ H Q q => tru_run h q
  mo := fun sd Q Q' k q => h.mo _ _ _ (fun d z => by
    cases q : truD d with
    | none => rw [q] at z; exact z.elim
    | some b => rw [q] at z; exact k _ z) q
def wBo (w : WR) : WB := fun sd Q => w sd fun r => match r with
  | .va (.bool b) => Q b
  | _ => False
theorem evt_cmp {op : CmpOp} {rd : RD2} {wa wb : WD} (ho : OpD X (compareOp op) m1 m2 rd) (ha : Ev m1 X a wa) (hb : Ev m2 X b wb) (hm : behindInMarks op b = false := by first | exact nomark _ | rfl) :
    EvT X (.Compare a [op] [b] pos) (wBo (w2 rd wa wb)) where
  pt := by
    obtain ⟨r, h1, h2⟩ := ho.ex
    refine PT.weak (pt_cmpR h1 ha.pe hb.pe hm) fun σ H Q q => ?_
    refine w2_run h2 ho.mo ha hb ?_
    obtain ⟨c, sd, os, hk, rr, q⟩ := q
    refine ⟨c, sd, os, hk, rr, w2_mo ho.mo ha hb _ _ _ (fun z kz v H' x rv => ?_) q⟩
    cases z with
    | fr ds => exact kz.elim
    | fd _ => exact kz.elim
    | va d =>
      cases d with
      | bool b => cases rv; exact ⟨b, rfl, kz H' x⟩
      | _ => exact kz.elim
  mo := fun sd Q Q' k q => w2_mo ho.mo ha hb _ _ _ (fun z y => by
    cases z with
    | fr ds => exact y.elim
    | fd _ => exact y.elim
    | va d =>
      cases d with
      | bool b => exact k _ y
      | _ => exact y.elim) q
structure EvW (X : Cx) (e : Expr) (w : WB) : Prop where
  pw : PW X e (tTe X.K w)
  mo : ∀ sd (Q Q' : Bool → Prop), (∀ r, Q r → Q' r) → w sd Q → w sd Q'
theorem PW.weak {X : Cx} {e : Expr} {t t' : TT} (h : PW X e t) (k : ∀ σ H Q, t' σ H Q → t σ H Q) : PW X e t' :=
  ⟨fun wh pins s σ H Q I q => h.run wh pins s σ H Q I (k σ H Q q)⟩
theorem EvW.t {w : WB} (h : EvW X e w) : EvT X e w := ⟨h.pw.pt, h.mo⟩
theorem evw_and1 {w : WB} (h : EvT X a w) : EvW X (.BoolOp .And [a] pos) w := ⟨pw_and1 h.pt, h.mo⟩
theorem evw_or1 {w : WB} (h : EvT X a w) : EvW X (.BoolOp .Or [a] pos) w := ⟨pw_or1 h.pt, h.mo⟩
def wAnd (w u : WB) : WB := fun sd Q => w sd fun c => if c = true then u sd Q else Q false
def wOr (w u : WB) : WB := fun sd Q => w sd fun c => if c = true then Q true else u sd Q
def wNot (w : WB) : WB := fun sd Q => w sd fun c => Q (!c)
theorem evw_and {w u : WB} {rest : List Expr} (h : EvT X a w) (t : EvW X (.BoolOp .And (b :: rest) pos) u) : EvW X (.BoolOp .And (a :: b :: rest) pos) (wAnd w u) where
  pw := PW.weak (pw_and h.pt t.pw) fun σ H Q ⟨c, sd, os, hk, r, q⟩ => ⟨c, sd, os, hk, r, h.mo _ _ _ (fun d k H1 x1 => by
    cases d with
    | true => exact ⟨c, sd, os, hk, r.grow x1, t.mo _ _ _ (fun b k2 H2 x2 => k2 H2 (x1.trans x2)) k⟩
    | false => exact k H1 x1) q⟩
  mo := fun sd Q Q' k q => h.mo _ _ _ (fun d z => by
    cases d with
    | true => exact t.mo _ _ _ k z
    | false => exact k _ z) q
theorem evw_or {w u : WB} {rest : List Expr} (h : EvT X a w) (t : EvW X (.BoolOp .Or (b :: rest) pos) u) : EvW X (.BoolOp .Or (a :: b :: rest) pos) (wOr w u) where
  pw := PW.weak (pw_or h.pt t.pw) fun σ H Q ⟨c, sd, os, hk, r, q⟩ => ⟨c, sd, os, hk, r, h.mo _ _ _ (fun d k H1 x1 => by
    cases d with
    | false => exact ⟨c, sd, os, hk, r.grow x1, t.mo _ _ _ (fun b k2 H2 x2 => k2 H2 (x1.trans x2)) k⟩
    | true => exact k H1 x1) q⟩
  mo := fun sd Q Q' k q => h.mo _ _ _ (fun d z => by
    cases d with
    | false => exact t.mo _ _ _ k z
    | true => exact k _ z) q
theorem evt_not {w : WB} (h : EvT X a w) : EvT X (.UnaryOp .Not a pos) (wNot w) where
  pt := PT.weak (pt_not h.pt) fun σ H Q ⟨c, sd, os, hk, r, q⟩ => ⟨c, sd, os, hk, r, h.mo _ _ _ (fun d k H1 x1 => k H1 x1) q⟩
  mo := fun sd Q Q' k q => h.mo _ _ _ (fun d z => k _ z) q
/-! ### and, or as values of truths; a if t else b -/
theorem evr_one {op} {w : WR} (h : EvR X a w) : EvR X (.BoolOp op [a] pos) w := ⟨pe_one h.pe, h.mo⟩
def wAndV (w u : WR) : WR := fun sd Q => w sd fun r => match r with
  | .va (.bool c) => if c = true then u sd Q else Q (.va (.bool false))
  | _ => False
def wOrV (w u : WR) : WR := fun sd Q => w sd fun r => match r with
  | .va (.bool c) => if c = true then Q (.va (.bool true)) else u sd Q
  | _ => False
theorem evr_and {w u : WR} {rest : List Expr} (h : EvR X a w) (t : EvR X (.BoolOp .And (b :: rest) pos) u) : EvR X (.BoolOp .And (a :: b :: rest) pos) (wAndV w u) where
  pe := PE.weak (pe_and h.pe t.pe) fun σ H Q ⟨c, sd, os, hk, r, q⟩ => ⟨c, sd, os, hk, r, h.mo _ _ _ (fun z k v H1 x1 rv => by
    cases z with
    | fr ds => exact k.elim
    | fd _ => exact k.elim
    | va d =>
      cases d with
      | bool b =>
        cases rv
        refine ⟨b, rfl, ?_⟩
        cases b with
        | true => exact ⟨c, sd, os, hk, r.grow x1, t.mo _ _ _ (fun y k2 v H2 x2 rv => k2 v H2 (x1.trans x2) (RvR.from r.sO (fun a m => (r.grow x1).there m) x1 rv)) k⟩
        | false => exact k _ H1 x1 (.bl false)
      | _ => exact k.elim) q⟩
  mo := fun sd Q Q' k q => h.mo _ _ _ (fun z y => by
    cases z with
    | fr ds => exact y.elim
    | fd _ => exact y.elim
    | va d =>
      cases d with
      | bool b =>
        cases b with
        | true => exact t.mo _ _ _ k y
        | false => exact k _ y
      | _ => exact y.elim) q
theorem evr_or {w u : WR} {rest : List Expr} (h : EvR X a w) (t : EvR X (.BoolOp .Or (b :: rest) pos) u) : EvR X (.BoolOp .Or (a :: b :: rest) pos) (wOrV w u) where
  pe := PE.weak (pe_or h.pe t.pe) fun σ H Q ⟨c, sd, os, hk, r, q⟩ => ⟨c, sd, os, hk, r, h.mo _ _ _ (fun z k v H1 x1 rv => by
    cases z with
    | fr ds => exact k.elim
    | fd _ => exact k.elim
    | va d =>
      cases d with
      | bool b =>
        cases rv
        refine ⟨b, rfl, ?_⟩
        cases b with
        | false => exact ⟨c, sd, os, hk, r.grow x1, t.mo _ _ _ (fun y k2 v H2 x2 rv => k2 v H2 (x1.trans x2) (RvR.from r.sO (fun a m => (r.grow x1).there m) x1 rv)) k⟩
        | true => exact k _ H1 x1 (.bl true)
      | _ => exact k.elim) q⟩
  mo := fun sd Q Q' k q => h.mo _ _ _ (fun z y => by
    cases z with
    | fr ds => exact y.elim
    | fd _ => exact y.elim
    | va d =>
      cases d with
      | bool b =>
        cases b with
        | false => exact t.mo _ _ _ k y
        | true => exact k _ y
      | _ => exact y.elim) q
def wIf {α : Type} (t : WB) (u v : SD → (α → Prop) → Prop) : SD → (α → Prop) → Prop := fun sd Q => t sd fun c => if c = true then u sd Q else v sd Q
theorem evr_if {c : Expr} {t : WB} {u v : WR} (hc : EvT X c t) (ha : EvR X a u) (hb : EvR X b v) : EvR X (.IfExp c a b pos) (wIf t u v) where
  pe := PE.weak (pe_ifExp hc.pt ha.pe hb.pe) fun σ H Q ⟨c, sd, os, hk, r, q⟩ => ⟨c, sd, os, hk, r, hc.mo _ _ _ (fun d k H1 x1 => by
    cases d with
    | true => exact ⟨c, sd, os, hk, r.grow x1, ha.mo _ _ _ (fun y k2 v H2 x2 rv => k2 v H2 (x1.trans x2) (RvR.from r.sO (fun a m => (r.grow x1).there m) x1 rv)) k⟩
    | false => exact ⟨c, sd, os, hk, r.grow x1, hb.mo _ _ _ (fun y k2 v H2 x2 rv => k2 v H2 (x1.trans x2) (RvR.from r.sO (fun a m => (r.grow x1).there m) x1 rv)) k⟩) q⟩
  mo := fun sd Q Q' k q => hc.mo _ _ _ (fun d z => by
    cases d with
    | true => exact ha.mo _ _ _ k z
    | false => exact hb.mo _ _ _ k z) q
/-! ### is None -/
def isNon : PyData → Bool
  | .none => true
  | _ => false
theorem non_iff {K : PySem.W.Frag} {H : Hp} {v : V} {d : PyData} (h : Dx K H v d) : decide (v = .non) = isNon d := by
  cases h <;> rfl
def wIsN (w : WD) (neg : Bool) : WR := fun sd Q => w sd fun d => Q (.va (.bool (if neg then !isNon d else isNon d)))
theorem evr_isN {w : WD} {j pos'} (h : Ev .bo X a w) : EvR X (.Compare a [.Is] [.Constant .none j pos'] pos) (wIsN w false) where
  pe := PE.weak (pe_cmp (pc_isN h.pe)) fun σ H Q ⟨c, sd, os, hk, r, q⟩ => ⟨c, sd, os, hk, r, h.mo _ _ _ (fun d k v H1 x1 dm => by
    dsimp only; rw [non_iff dm]; exact k _ H1 x1 (.bl _)) q⟩
  mo := fun sd Q Q' k q => h.mo _ _ _ (fun d z => k _ z) q
theorem evr_notN {w : WD} {j pos'} (h : Ev .bo X a w) : EvR X (.Compare a [.IsNot] [.Constant .none j pos'] pos) (wIsN w true) where
  pe := PE.weak (pe_cmp (pc_notN h.pe)) fun σ H Q ⟨c, sd, os, hk, r, q⟩ => ⟨c, sd, os, hk, r, h.mo _ _ _ (fun d k v H1 x1 dm => by
    dsimp only; rw [non_iff dm]; exact k _ H1 x1 (.bl _)) q⟩
  mo := fun sd Q Q' k q => h.mo _ _ _ (fun d z => k _ z) q
theorem evt_isN {w : WD} {j pos'} (h : Ev .bo X a w) : EvT X (.Compare a [.Is] [.Constant .none j pos'] pos) (wBo (wIsN w false)) where
  pt := PT.weak (pt_cmp (pc_isN h.pe)) fun σ H Q ⟨c, sd, os, hk, r, q⟩ => ⟨c, sd, os, hk, r, h.mo _ _ _ (fun d k v H1 x1 dm => by
    dsimp only; rw [non_iff dm]; exact ⟨_, rfl, k H1 x1⟩) q⟩
  mo := fun sd Q Q' k q => h.mo _ _ _ (fun d z => k _ z) q
theorem evt_notN {w : WD} {j pos'} (h : Ev .bo X a w) : EvT X (.Compare a [.IsNot] [.Constant .none j pos'] pos) (wBo (wIsN w true)) where
  pt := PT.weak (pt_cmp (pc_notN h.pe)) fun σ H Q ⟨c, sd, os, hk, r, q⟩ => ⟨c, sd, os, hk, r, h.mo _ _ _ (fun d k v H1 x1 dm => by
    dsimp only; rw [non_iff dm]; exact ⟨_, rfl, k H1 x1⟩) q⟩
  mo := fun sd Q Q' k q => h.mo _ _ _ (fun d z => k _ z) q
end
end DL

set_option Elab.async false
set_option linter.all false
set_option maxRecDepth 100000
set_option maxHeartbeats 4000000
/-! statements over data -/
namespace DL
open PySem PySem.Spec PyProof.Rows L2
variable [Tb]
/-- what is wanted behind a statement -/
structure ED where
  nx : SD → Prop
  rt : RV → Prop
  bk : SD → Prop
  ct : SD → Prop
abbrev WS := ED → SD → Prop
/-- the wish in data is one over values -/
structure ER (c : Cd) (E : ED) (D : Ends) : Prop where
  nx : ∀ sd os σ H, R c sd os σ H → E.nx sd → D.nx σ H
  bk : ∀ sd os σ H, R c sd os σ H → E.bk sd → D.bk σ H
  ct : ∀ sd os σ H, R c sd os σ H → E.ct sd → D.ct σ H
  rt : ∀ z v H, Ext c.S c.H0 H → RvR c.K c.Oc c.H0 H v z → E.rt z → D.rt v H
def tSt (K : PySem.W.Frag) (w : WS) : TS := fun D σ H => ∃ (c : Cd) (sd : SD) (os : List (Option Addr)) (E : ED), c.K = K ∧ R c sd os σ H ∧ ER c E D ∧ w E sd
structure EvS (X : Cx) (st : Stmt) (w : WS) : Prop where
  ps : PS X st (tSt X.K w)
  mo : ∀ (E E' : ED) sd, (∀ sd, E.nx sd → E'.nx sd) → (∀ z, E.rt z → E'.rt z) → (∀ sd, E.bk sd → E'.bk sd) → (∀ sd, E.ct sd → E'.ct sd) → w E sd → w E' sd
structure EvB (X : Cx) (sts : List Stmt) (w : WS) : Prop where
  ps : PSs X sts (tSt X.K w)
  mo : ∀ (E E' : ED) sd, (∀ sd, E.nx sd → E'.nx sd) → (∀ z, E.rt z → E'.rt z) → (∀ sd, E.bk sd → E'.bk sd) → (∀ sd, E.ct sd → E'.ct sd) → w E sd → w E' sd
theorem PS.weak {X : Cx} {e : Stmt} {t t' : TS} (h : PS X e t) (k : ∀ D σ H, t' D σ H → t D σ H) : PS X e t' :=
  ⟨fun pins s σ H D I q => h.run pins s σ H D I (k D σ H q)⟩
theorem PSs.weak {X : Cx} {e : List Stmt} {t t' : TS} (h : PSs X e t) (k : ∀ D σ H, t' D σ H → t D σ H) : PSs X e t' :=
  ⟨fun pins s σ H D I q => h.run pins s σ H D I (k D σ H q)⟩
section
variable {X : Cx} {e a b : Expr} {es : List Expr} {m m1 m2 : Md} {pos p : Pos} {st : Stmt} {rest : List Stmt} {w u : WS}
theorem evb_nil : EvB X [] (fun E sd => E.nx sd) where
  ps := PSs.weak pss_nil fun D σ H ⟨c, sd, os, E, hk, r, er, q⟩ => er.nx _ _ _ _ r q
  mo := fun E E' sd h _ _ _ q => h _ q
theorem evb_cons (h : EvS X st w) (t : EvB X rest u) : EvB X (st :: rest) (fun E sd => w { E with nx := fun sd' => u E sd' } sd) where
  ps := PSs.weak (pss_cons h.ps t.ps) fun D σ H ⟨c, sd, os, E, hk, r, er, q⟩ =>
    ⟨c, sd, os, { E with nx := fun sd' => u E sd' }, hk, r, ⟨fun sd os σ H r q => ⟨c, sd, os, E, hk, r, er, q⟩, er.bk, er.ct, er.rt⟩, q⟩
  mo := fun E E' sd h1 h2 h3 h4 q => h.mo { E with nx := fun sd' => u E sd' } { E' with nx := fun sd' => u E' sd' } sd (fun sd z => t.mo E E' sd h1 h2 h3 h4 z) h2 h3 h4 q
theorem evb_one (h : EvS X st w) : EvB X [st] w := ⟨pss_one h.ps, h.mo⟩
theorem evs_pass : EvS X (.Pass pos) (fun E sd => E.nx sd) where
  ps := PS.weak ps_pass fun D σ H ⟨c, sd, os, E, hk, r, er, q⟩ => er.nx _ _ _ _ r q
  mo := fun E E' sd h _ _ _ q => h _ q
theorem evs_break : EvS X (.Break pos) (fun E sd => E.bk sd) where
  ps := PS.weak ps_break fun D σ H ⟨c, sd, os, E, hk, r, er, q⟩ => er.bk _ _ _ _ r q
  mo := fun E E' sd _ _ h _ q => h _ q
theorem evs_continue : EvS X (.Continue pos) (fun E sd => E.ct sd) where
  ps := PS.weak ps_continue fun D σ H ⟨c, sd, os, E, hk, r, er, q⟩ => er.ct _ _ _ _ r q
  mo := fun E E' sd _ _ _ h q => h _ q
/-- return e -/
theorem rv_ret {c : Cd} {sd : SD} {os : List (Option Addr)} {σ : L2.St} {H H' : Hp} {v : V} {z : RV} (r : R c sd os σ H) (x : Ext c.S H H') (h : RvR c.K (OO c os) H H' v z) : RvR c.K c.Oc c.H0 H' v z := by
  have hs : ∀ a ∈ c.Oc, a ∈ OO c os := fun a m => mem_OO.mpr (.inl m)
  cases z with
  | va d => exact Dx.same (hid_le hs) d v h
  | fr ds =>
    obtain ⟨p, xs, e1, e2, e3, e4⟩ := h
    refine ⟨p, xs, e1, ?_, e3, DxAll.same (hid_same (fun _ _ _ h => h) fun a m => .inl ?_) _ _ e4⟩
    · cases q : c.H0 p with
      | none => rfl
      | some o =>
        by_cases z : p ∈ c.S
        · exact absurd e2 (r.srcNow.there p z)
        · rw [r.ext.st p o z q] at e2; cases e2
    · rcases List.mem_cons.mp m with rfl | m
      · exact List.mem_cons_self
      · exact List.mem_cons_of_mem _ (hs a m)
  | fd es =>
    obtain ⟨p, xs, e1, e2, e3, e4⟩ := h
    refine ⟨p, xs, e1, ?_, e3, DE.same (hid_same (fun _ _ _ h => h) fun a m => .inl ?_) e4⟩
    · cases q : c.H0 p with
      | none => rfl
      | some o =>
        by_cases z : p ∈ c.S
        · exact absurd e2 (r.srcNow.there p z)
        · rw [r.ext.st p o z q] at e2; cases e2
    · rcases List.mem_cons.mp m with rfl | m
      · exact List.mem_cons_self
      · exact List.mem_cons_of_mem _ (hs a m)
theorem evs_ret {we : WR} (h : EvR X e we) : EvS X (.Return (some e) pos) (fun E sd => we sd E.rt) where
  ps := PS.weak (ps_ret h.pe) fun D σ H ⟨c, sd, os, E, hk, r, er, q⟩ => ⟨c, sd, os, hk, r, h.mo _ _ _ (fun z kz v H' x rv =>
    er.rt z v H' (r.ext.trans x) (rv_ret r x (by rw [hk]; exact rv)) kz) q⟩
  mo := fun E E' sd _ h2 _ _ q => h.mo _ _ _ h2 q
def wRetO (i : Nat) : WS := fun E sd => match getS sd i with
  | .ow ds => E.rt (.fr ds)
  | .od es => E.rt (.fd es)
  | .va d => E.rt (.va d)
  | _ => False
/-- return xs, xs a list of one's own: it is the caller's from now on -/
theorem evs_retO {x : Str} (i : Nat) (hN : X.N[i]? = some x := by rfl)
    (hv : Vis X.env.scope x := by first | exact Or.inl rfl | exact Or.inr (Or.inl rfl) | exact Or.inr (Or.inr rfl))
    (hd : (x == ("__debug__" : Str)) = false := by decide) (hcd : (x == ("__classdict__" : Str)) = false := by decide) :
    EvS X (.Return (some (.Name x p)) pos) (wRetO i) where
  ps := PS.weak (ps_ret (pe_var hN hv hd hcd)) fun D σ H ⟨c, sd, os, E, hk, r, er, q⟩ => by
    unfold wRetO at q
    cases e : getS sd i with
    | so => rw [e] at q; exact q.elim
    | fn _ => rw [e] at q; exact q.elim
    | un => rw [e] at q; exact q.elim
    | va d =>
      rw [e] at q
      obtain ⟨v, oa, h1, h2, h3, y, rfl, h4⟩ := r.at_ e (by intro z; cases z)
      exact ⟨y, h1, er.rt (.va d) y H r.ext (rv_ret r Ext.refl (z := .va d) h4) q⟩
    | ow ds =>
      rw [e] at q
      obtain ⟨v, oa, h1, h2, a, xs, rfl, rfl, h3, h4, h5⟩ := r.at_ e (by intro z; cases z)
      refine ⟨_, h1, er.rt (.fr ds) _ H r.ext ⟨a, xs, rfl, h5, h3, DxAll.same (hid_same (fun _ _ _ h => h) fun b m => .inl ?_) _ _ h4⟩ q⟩
      rcases List.mem_cons.mp m with rfl | m
      · exact mem_OO.mpr (.inr (List.mem_of_getElem? h2))
      · exact mem_OO.mpr (.inl m)
    | od es =>
      rw [e] at q
      obtain ⟨v, oa, h1, h2, a, xs, rfl, rfl, h3, h4, h5⟩ := r.at_ e (by intro z; cases z)
      refine ⟨_, h1, er.rt (.fd es) _ H r.ext ⟨a, xs, rfl, h5, h3, DE.same (hid_same (fun _ _ _ h => h) fun b m => .inl ?_) h4⟩ q⟩
      rcases List.mem_cons.mp m with rfl | m
      · exact mem_OO.mpr (.inr (List.mem_of_getElem? h2))
      · exact mem_OO.mpr (.inl m)
  mo := fun E E' sd _ h2 _ _ q => by
    unfold wRetO at q ⊢
    cases e : getS sd i with
    | so => rw [e] at q; exact q.elim
    | fn _ => rw [e] at q; exact q.elim
    | un => rw [e] at q; exact q.elim
    | va d => first | exact h2 _ q | (rw [e] at q; exact h2 _ q)
    | ow d => first | exact h2 _ q | (rw [e] at q; exact h2 _ q)
    | od d => first | exact h2 _ q | (rw [e] at q; exact h2 _ q)
theorem evs_retN : EvS X (.Return none pos) (fun E sd => E.rt (.va .none)) where
  ps := PS.weak ps_retN fun D σ H ⟨c, sd, os, E, hk, r, er, q⟩ => er.rt (.va .none) _ H r.ext (.non) q
  mo := fun E E' sd _ h2 _ _ q => h2 _ q
/-- if -/
theorem evs_if {c : Expr} {x y : List Stmt} {t : WB} (hc : EvT X c t) (ha : EvB X x w) (hb : EvB X y u) : EvS X (.If c x y pos) (fun E sd => t sd fun b => if b = true then w E sd else u E sd) where
  ps := PS.weak (ps_if hc.pt ha.ps hb.ps) fun D σ H ⟨c, sd, os, E, hk, r, er, q⟩ => ⟨c, sd, os, hk, r, hc.mo _ _ _ (fun d k H1 x1 => by
    cases d with
    | true => exact ⟨c, sd, os, E, hk, r.grow x1, er, k⟩
    | false => exact ⟨c, sd, os, E, hk, r.grow x1, er, k⟩) q⟩
  mo := fun E E' sd h1 h2 h3 h4 q => hc.mo _ _ _ (fun d z => by
    cases d with
    | true => exact ha.mo _ _ _ h1 h2 h3 h4 z
    | false => exact hb.mo _ _ _ h1 h2 h3 h4 z) q
/-! ### storing -/
theorem set_get {α : Type} {l : List α} {i j : Nat} {x y : α} (h : (l.set i x)[j]? = some y) : (j = i ∧ y = x) ∨ (j ≠ i ∧ l[j]? = some y) := by
  by_cases e : i = j
  · subst e
    left
    have l1 : i < (l.set i x).length := (List.getElem?_eq_some_iff.mp h).1
    rw [List.length_set] at l1
    rw [List.getElem?_set_self l1] at h
    cases h
    exact ⟨rfl, rfl⟩
  · rw [List.getElem?_set_ne e] at h
    exact .inr ⟨fun z => e z.symm, h⟩
theorem R.set {c : Cd} {sd : SD} {os : List (Option Addr)} {σ : L2.St} {H H' : Hp} {i : Nat} {v : V} {z : RV} (r : R c sd os σ H) (x : Ext c.S H H') (h : RvR c.K (OO c os) H H' v z) :
    ∃ oa, R c (sd.set i z.sv) (os.set i oa) (σ.set i (some v)) H' := by
  have rr := r.grow x
  cases z with
  | va d =>
    refine ⟨none, rr.ext, rr.src, rr.sin, rr.ocl, by simp [rr.lend], by simp [rr.leno], fun j s w oa h1 h2 h3 => ?_, fun j k a h1 h2 => ?_, fun p m => ?_, fun a m => ?_⟩
    · have sub : Same (hid (OO c os) H') (hid (OO c (os.set i none)) H') := hid_same (fun _ _ _ h => h) fun a m => by
        rcases mem_OO.mp m with q | q
        · exact .inl (mem_OO.mpr (.inl q))
        · obtain ⟨j, hj, e⟩ := List.getElem_of_mem q
          rcases set_get (show (os.set i none)[j]? = some (some a) by rw [List.getElem?_eq_getElem hj, e]) with ⟨_, z⟩ | ⟨_, z⟩
          · cases z
          · exact .inl (mem_OO.mpr (.inr (List.mem_of_getElem? z)))
      rcases set_get h1 with ⟨ej, e1⟩ | ⟨nj, e1⟩
      · subst ej e1
        rcases set_get h2 with ⟨_, e2⟩ | ⟨n, _⟩
        · rcases set_get h3 with ⟨_, e3⟩ | ⟨n, _⟩
          · subst e2 e3
            exact ⟨rfl, v, rfl, Dx.same sub _ _ h⟩
          · exact absurd rfl n
        · exact absurd rfl n
      · rcases set_get h2 with ⟨n, _⟩ | ⟨_, e2⟩
        · exact absurd n nj
        · rcases set_get h3 with ⟨n, _⟩ | ⟨_, e3⟩
          · exact absurd n nj
          · have q := rr.slot j s w oa e1 e2 e3
            cases s with
            | un => exact q
            | so => exact q
            | fn _ => exact q
            | va d => obtain ⟨q1, y, q2, q3⟩ := q; exact ⟨q1, y, q2, Dx.same sub _ _ q3⟩
            | ow ds => obtain ⟨a, xs, q1, q2, q3, q4, q5⟩ := q; exact ⟨a, xs, q1, q2, q3, DxAll.same sub _ _ q4, q5⟩
            | od ds => obtain ⟨a, xs, q1, q2, q3, q4, q5⟩ := q; exact ⟨a, xs, q1, q2, q3, DE.same sub q4, q5⟩
    · rcases set_get h1 with ⟨_, e⟩ | ⟨n1, e1⟩
      · cases e
      · rcases set_get h2 with ⟨_, e⟩ | ⟨n2, e2⟩
        · cases e
        · exact rr.uniq j k a e1 e2
    · exact Dx.same (hid_same (fun _ _ _ h => h) fun a m => by
        rcases mem_OO.mp m with q | q
        · exact .inl (mem_OO.mpr (.inl q))
        · obtain ⟨j, hj, e⟩ := List.getElem_of_mem q
          rcases set_get (show (os.set i none)[j]? = some (some a) by rw [List.getElem?_eq_getElem hj, e]) with ⟨_, z⟩ | ⟨_, z⟩
          · cases z
          · exact .inl (mem_OO.mpr (.inr (List.mem_of_getElem? z)))) _ _ (rr.tmp p m)
    · obtain ⟨j, hj, e⟩ := List.getElem_of_mem m
      rcases set_get (show (os.set i none)[j]? = some (some a) by rw [List.getElem?_eq_getElem hj, e]) with ⟨_, z⟩ | ⟨_, z⟩
      · cases z
      · exact rr.dis a (List.mem_of_getElem? z)
  | fr ds =>
    obtain ⟨p, ys, rfl, hp, hp', hd⟩ := h
    have np : some p ∉ os := fun m => r.there (mem_OO.mpr (.inr m)) hp
    have sub0 : Same (hid (OO c os) H) (hid (OO c (os.set i (some p))) H') := hid_same (fun a o n e => x.st a o (fun z => n (r.sO a z)) e) fun a m => by
      rcases mem_OO.mp m with q | q
      · exact .inl (mem_OO.mpr (.inl q))
      · obtain ⟨j, hj, e⟩ := List.getElem_of_mem q
        rcases set_get (show (os.set i (some p))[j]? = some (some a) by rw [List.getElem?_eq_getElem hj, e]) with ⟨_, z⟩ | ⟨_, z⟩
        · cases z; exact .inr hp
        · exact .inl (mem_OO.mpr (.inr (List.mem_of_getElem? z)))
    have sub1 : Same (hid (p :: OO c os) H') (hid (OO c (os.set i (some p))) H') := hid_same (fun _ _ _ h => h) fun a m => by
      rcases mem_OO.mp m with q | q
      · exact .inl (List.mem_cons_of_mem _ (mem_OO.mpr (.inl q)))
      · obtain ⟨j, hj, e⟩ := List.getElem_of_mem q
        rcases set_get (show (os.set i (some p))[j]? = some (some a) by rw [List.getElem?_eq_getElem hj, e]) with ⟨_, z⟩ | ⟨_, z⟩
        · cases z; exact .inl List.mem_cons_self
        · exact .inl (List.mem_cons_of_mem _ (mem_OO.mpr (.inr (List.mem_of_getElem? z))))
    have h0 : c.H0 p = none := by
      cases q : c.H0 p with
      | none => rfl
      | some o =>
        by_cases z : p ∈ c.S
        · exact absurd hp (r.srcNow.there p z)
        · rw [r.ext.st p o z q] at hp; cases hp
    refine ⟨some p, rr.ext, rr.src, rr.sin, rr.ocl, by simp [rr.lend], by simp [rr.leno], fun j s w oa h1 h2 h3 => ?_, fun j k a h1 h2 => ?_, fun q m => Dx.same sub0 _ _ (r.tmp q m), fun a m => ?_⟩
    · rcases set_get h1 with ⟨ej, e1⟩ | ⟨nj, e1⟩
      · subst ej e1
        rcases set_get h2 with ⟨_, e2⟩ | ⟨n, _⟩
        · rcases set_get h3 with ⟨_, e3⟩ | ⟨n, _⟩
          · subst e2 e3
            exact ⟨p, ys, rfl, rfl, hp', DxAll.same sub1 _ _ hd, h0⟩
          · exact absurd rfl n
        · exact absurd rfl n
      · rcases set_get h2 with ⟨n, _⟩ | ⟨_, e2⟩
        · exact absurd n nj
        · rcases set_get h3 with ⟨n, _⟩ | ⟨_, e3⟩
          · exact absurd n nj
          · have q := r.slot j s w oa e1 e2 e3
            cases s with
            | un => exact q
            | so => exact q
            | fn _ => exact q
            | va d => obtain ⟨q1, y, q2, q3⟩ := q; exact ⟨q1, y, q2, Dx.same sub0 _ _ q3⟩
            | ow ds =>
              obtain ⟨a, xs, q1, q2, q3, q4, q5⟩ := q
              subst q1
              exact ⟨a, xs, rfl, q2, x.st a _ (own_notS r (List.mem_of_getElem? e3)) q3, DxAll.same sub0 _ _ q4, q5⟩
            | od ds =>
              obtain ⟨a, xs, q1, q2, q3, q4, q5⟩ := q
              subst q1
              exact ⟨a, xs, rfl, q2, x.st a _ (own_notS r (List.mem_of_getElem? e3)) q3, DE.same sub0 q4, q5⟩
    · rcases set_get h1 with ⟨ej, e1⟩ | ⟨n1, e1⟩
      · cases e1
        rcases set_get h2 with ⟨ek, e2⟩ | ⟨n2, e2⟩
        · rw [ej, ek]
        · exact absurd (List.mem_of_getElem? e2) np
      · rcases set_get h2 with ⟨ek, e2⟩ | ⟨n2, e2⟩
        · cases e2
          exact absurd (List.mem_of_getElem? e1) np
        · exact rr.uniq j k a e1 e2
    · obtain ⟨j, hj, e⟩ := List.getElem_of_mem m
      rcases set_get (show (os.set i (some p))[j]? = some (some a) by rw [List.getElem?_eq_getElem hj, e]) with ⟨_, z⟩ | ⟨_, z⟩
      · cases z
        exact fun z => r.there (mem_OO.mpr (.inl z)) hp
      · exact rr.dis a (List.mem_of_getElem? z)
  | fd es =>
    obtain ⟨p, ys, rfl, hp, hp', hd⟩ := h
    have np : some p ∉ os := fun m => r.there (mem_OO.mpr (.inr m)) hp
    have sub0 : Same (hid (OO c os) H) (hid (OO c (os.set i (some p))) H') := hid_same (fun a o n e => x.st a o (fun z => n (r.sO a z)) e) fun a m => by
      rcases mem_OO.mp m with q | q
      · exact .inl (mem_OO.mpr (.inl q))
      · obtain ⟨j, hj, e⟩ := List.getElem_of_mem q
        rcases set_get (show (os.set i (some p))[j]? = some (some a) by rw [List.getElem?_eq_getElem hj, e]) with ⟨_, z⟩ | ⟨_, z⟩
        · cases z; exact .inr hp
        · exact .inl (mem_OO.mpr (.inr (List.mem_of_getElem? z)))
    have sub1 : Same (hid (p :: OO c os) H') (hid (OO c (os.set i (some p))) H') := hid_same (fun _ _ _ h => h) fun a m => by
      rcases mem_OO.mp m with q | q
      · exact .inl (List.mem_cons_of_mem _ (mem_OO.mpr (.inl q)))
      · obtain ⟨j, hj, e⟩ := List.getElem_of_mem q
        rcases set_get (show (os.set i (some p))[j]? = some (some a) by rw [List.getElem?_eq_getElem hj, e]) with ⟨_, z⟩ | ⟨_, z⟩
        · cases z; exact .inl List.mem_cons_self
        · exact .inl (List.mem_cons_of_mem _ (mem_OO.mpr (.inr (List.mem_of_getElem? z))))
    have h0 : c.H0 p = none := by
      cases q : c.H0 p with
      | none => rfl
      | some o =>
        by_cases z : p ∈ c.S
        · exact absurd hp (r.srcNow.there p z)
        · rw [r.ext.st p o z q] at hp; cases hp
    refine ⟨some p, rr.ext, rr.src, rr.sin, rr.ocl, by simp [rr.lend], by simp [rr.leno], fun j s w oa h1 h2 h3 => ?_, fun j k a h1 h2 => ?_, fun q m => Dx.same sub0 _ _ (r.tmp q m), fun a m => ?_⟩
    · rcases set_get h1 with ⟨ej, e1⟩ | ⟨nj, e1⟩
      · subst ej e1
        rcases set_get h2 with ⟨_, e2⟩ | ⟨n, _⟩
        · rcases set_get h3 with ⟨_, e3⟩ | ⟨n, _⟩
          · subst e2 e3
            exact ⟨p, ys, rfl, rfl, hp', DE.same sub1 hd, h0⟩
          · exact absurd rfl n
        · exact absurd rfl n
      · rcases set_get h2 with ⟨n, _⟩ | ⟨_, e2⟩
        · exact absurd n nj
        · rcases set_get h3 with ⟨n, _⟩ | ⟨_, e3⟩
          · exact absurd n nj
          · have q := r.slot j s w oa e1 e2 e3
            cases s with
            | un => exact q
            | so => exact q
            | fn _ => exact q
            | va d => obtain ⟨q1, y, q2, q3⟩ := q; exact ⟨q1, y, q2, Dx.same sub0 _ _ q3⟩
            | ow ds =>
              obtain ⟨a, xs, q1, q2, q3, q4, q5⟩ := q
              subst q1
              exact ⟨a, xs, rfl, q2, x.st a _ (own_notS r (List.mem_of_getElem? e3)) q3, DxAll.same sub0 _ _ q4, q5⟩
            | od ds =>
              obtain ⟨a, xs, q1, q2, q3, q4, q5⟩ := q
              subst q1
              exact ⟨a, xs, rfl, q2, x.st a _ (own_notS r (List.mem_of_getElem? e3)) q3, DE.same sub0 q4, q5⟩
    · rcases set_get h1 with ⟨ej, e1⟩ | ⟨n1, e1⟩
      · cases e1
        rcases set_get h2 with ⟨ek, e2⟩ | ⟨n2, e2⟩
        · rw [ej, ek]
        · exact absurd (List.mem_of_getElem? e2) np
      · rcases set_get h2 with ⟨ek, e2⟩ | ⟨n2, e2⟩
        · cases e2
          exact absurd (List.mem_of_getElem? e1) np
        · exact rr.uniq j k a e1 e2
    · obtain ⟨j, hj, e⟩ := List.getElem_of_mem m
      rcases set_get (show (os.set i (some p))[j]? = some (some a) by rw [List.getElem?_eq_getElem hj, e]) with ⟨_, z⟩ | ⟨_, z⟩
      · cases z
        exact fun z => r.there (mem_OO.mpr (.inl z)) hp
      · exact rr.dis a (List.mem_of_getElem? z)
/-- name = e -/
theorem evs_set {we : WR} {x : Str} {pos' : Pos} (i : Nat) (h : EvR X e we) (hN : X.N.Nodup) (hi : X.N[i]? = some x := by rfl) (hx : Loc X.env.scope x := by first | exact Or.inl rfl | exact Or.inr rfl)
    (hs : swapsWith e (some (.Name x pos')) pos.line X.env = pure false := by rfl) (hf : X.fn x = true ∨ X.env.scope.names.lookup x = some .local := by first | exact .inl rfl | exact .inr rfl) :
    EvS X (.Assign [.Name x pos'] e pos) (fun E sd => we sd fun z => E.nx (sd.set i z.sv)) where
  ps := PS.weak (ps_set hN hi hx h.pe hs hf) fun D σ H ⟨c, sd, os, E, hk, r, er, q⟩ => ⟨c, sd, os, hk, r, h.mo _ _ _ (fun z kz v H' x rv => by
    obtain ⟨os', r'⟩ := R.set (i := i) r x (by rw [hk]; exact rv)
    exact er.nx _ _ _ _ r' kz) q⟩
  mo := fun E E' sd h1 _ _ _ q => h.mo _ _ _ (fun z y => h1 _ y) q
/-- an expression whose value is dropped -/
theorem evs_drop {we : WR} (h : EvR X e we) (hs : swapsWith e none pos.line X.env = pure false := by rfl) : EvS X (.Expr e pos) (fun E sd => we sd fun _ => E.nx sd) where
  ps := PS.weak (ps_expr h.pe hs) fun D σ H ⟨c, sd, os, E, hk, r, er, q⟩ => ⟨c, sd, os, hk, r, h.mo _ _ _ (fun z kz v H' x rv => er.nx _ _ _ _ (r.grow x) kz) q⟩
  mo := fun E E' sd h1 _ _ _ q => h.mo _ _ _ (fun z y => h1 _ y) q
end
end DL

set_option Elab.async false
set_option linter.all false
set_option maxRecDepth 100000
set_option maxHeartbeats 4000000
/-! two rules that were lacking: t[::-1] of a tuple, xs.extend(t) -/
namespace DL
open PySem PySem.Spec PyProof.Rows L2
variable [Tb]
section
variable {prog : Program} {w : World} {A : Around} {E : Value → Shared → Prop} {s : Shared}
theorem adj_back (n : Nat) : Builtin.Slice.sliceAdjust none none (-1) (n : Int) = ((n : Int) - 1, -1) := by
  unfold Builtin.Slice.sliceAdjust
  first
    | rfl
    | simp
theorem plc_back (n : Nat) : Builtin.Slice.slicePlaces ((n : Int) - 1) (-1) (-1) = n := by
  unfold Builtin.Slice.slicePlaces
  have h1 : ¬ ((-1 : Int) > 0) := by decide
  simp only [h1, if_false]
  first
    | omega
    | (split <;> omega)
    | (simp; omega)
theorem applied_back {sl : Addr} {u : Tok} {n : Nat} {Q : Int × Int × Nat → Shared → Prop} (hs : s.heap.IsSliceOf sl .none .none (.int (-1) u)) (h : Q ((n : Int) - 1, -1, n) s) :
    wpAny (model prog w) A (Builtin.Slice.sliceApplied (.ref sl) (pure (n : Int))) Q E s := by
  obtain ⟨os, hos, hcs, hds⟩ := id hs
  unfold Builtin.Slice.sliceApplied Builtin.Slice.sliceFields
  refine wpAny_bind (wpAny_bind (wpAny_field hos hds (x := .none) rfl (wpAny_bind (wpAny_field hos hds (x := .none) rfl
    (wpAny_bind (wpAny_field hos hds (x := .int (-1) u) rfl (wpAny_pure ?_)))))))
  refine wpAny_bind (slicePart_int ?_)
  show wpAny _ _ (if ((-1 : Int) == 0) = true then _ else _) _ _ s
  rw [if_neg (by decide)]
  refine wpAny_bind (slicePart_none (wpAny_bind (slicePart_none (wpAny_bind (wpAny_pure ?_)))))
  show wpAny _ _ (match Builtin.Slice.sliceAdjust none none (-1) (n : Int) with
    | (lo, hi) => pure (lo, (-1 : Int), Builtin.Slice.slicePlaces lo hi (-1))) _ _ s
  rw [adj_back n]
  show wpAny _ _ (pure (((n : Int) - 1), (-1 : Int), Builtin.Slice.slicePlaces ((n : Int) - 1) (-1) (-1))) _ _ s
  rw [plc_back]
  exact wpAny_pure h
theorem pick_back (xs : Array Value) : ((List.range xs.size).filterMap fun (m : Nat) => xs[(((xs.size : Int) - 1) + (m : Int) * (-1)).toNat]?).toArray = xs.toList.reverse.toArray := by
  have e1 : (List.range xs.size).filterMap (fun (m : Nat) => xs[(((xs.size : Int) - 1) + (m : Int) * (-1)).toNat]?) = ((List.range xs.size).map (fun m => xs.size - 1 - m)).filterMap (xs[·]?) := by
    rw [List.filterMap_map]
    congr 1
    funext m
    show xs[(((xs.size : Int) - 1) + (m : Int) * (-1)).toNat]? = xs[xs.size - 1 - m]?
    congr 1
    omega
  rw [e1, PySem.W.krv_range, List.filterMap_reverse, PySem.W.krv_all]
theorem tup_back {t sl : Addr} {items : Array Value} {u : Tok} {Q : Value → Shared → Prop} (ht : IsTup s.heap t items) (hs : s.heap.IsSliceOf sl .none .none (.int (-1) u))
    (h : Q (.ref s.heap.objs.size) { s with heap := s.heap.push { cls := .type "tuple", data := .seq items.toList.reverse.toArray } })
    (hsz : items.size ≤ sizeLine) : wpAny (model prog w) A (getItem (.ref t) (.ref sl)) Q E s := by
  have hok : sizeOk (.seq items.toList.reverse.toArray) := by
    show items.toList.reverse.toArray.size ≤ sizeLine
    rw [List.size_toArray, List.length_reverse, Array.length_toList]
    exact hsz
  obtain ⟨os, hos, hcs, hds⟩ := id hs
  have hTs : s.TypeIs (.ref sl) "slice" := ⟨os, hos, hcs⟩
  unfold getItem
  try with_reducible refine wpAny_holding ?_
  first
    | refine wpAny_bind (wpAny_pure ?_)
    | skip
  refine wpAny_bind (wpAny_sequenceKey ht.typeIs (by decide) ?_)
  refine wpAny_bind (wpAny_callSpecial?_slot (name := Str.ofString "__getitem__") ht.typeIs slot_tuple_getitem
    (wpAny_call_entry slot_tuple_getitem ht.typeIs entry_tuple_getitem ?_
      (args_tuple_getitem _ _)))
  show wpAny _ _ (Builtin.Tuple.tupleItemsOf (.ref t) >>= _) _ _ s
  refine wpAny_bind (tupleItemsOf_ ht ?_)
  refine wpAny_bind (wpAny_typeOf hTs ?_)
  rw [if_pos (by decide)]
  refine wpAny_bind (applied_back hs ?_)
  have hno : ¬ ((((items.size : Int) - 1) == 0 && (-1 : Int) == 1 && items.size == items.size) = true) := by
    rw [show ((-1 : Int) == 1) = false from rfl, Bool.and_false, Bool.false_and]
    exact Bool.false_ne_true
  show wpAny _ _ (if (((items.size : Int) - 1) == 0 && (-1 : Int) == 1 && items.size == items.size) = true then _ else _) _ _ s
  rw [if_neg hno, pick_back]
  first
    | exact wpAny_bind (m := Builtin.Tuple.tupleExact _) (wpAny_newObj_type (wpAny_pure ⟨_, rfl, wpAny_pure h⟩) hok)
    | exact wpAny_bind (m := Builtin.Tuple.tupleExact _) (wpAny_newObj_type (wpAny_bind (wpAny_pure (wpAny_pure
        ⟨_, rfl, wpAny_pure h⟩))) hok)
    | exact wpAny_bind (wpAny_bind (m := Builtin.Tuple.tupleExact _) (wpAny_newObj_type (wpAny_pure
        (wpAny_pure ⟨_, rfl, wpAny_pure h⟩)) hok))
    | exact wpAny_bind (wpAny_bind (m := Builtin.Tuple.tupleExact _) (wpAny_newObj_type (wpAny_pure
        ⟨_, rfl, wpAny_pure h⟩) hok))
theorem ext_tup (l : Addr) (items : Array Value) (n : Nat) (b : Addr) (items2 : Array Value) (n2 : Nat) (dd : Option Addr) (sl : Array (Option Value))
    (hs0 : ¬ (!items.isEmpty && Builtin.List.listTooLong (items.size + items2.size)) = true) (hs1 : items.size ≤ sizeLine) (hs2 : items.size + items2.size ≤ sizeLine + 1) :
    Meets (Builtin.«list.extend» ⟨[.ref l, .ref b], []⟩) (fun _ R s =>
      s.heap.get? l = some { cls := .type "list", data := .seq items n } ∧ s.heap.get? b = some { cls := .type "tuple", dict := dd, data := .seq items2 n2, slots := sl } ∧
      R (.ok (.ret Value.none)) { s with heap := s.heap.update l (Obj.mapSeq fun x => x ++ items2), toks := s.toks }) :=
  .of_wp fun prog w A R s h => by
    obtain ⟨hp, g, d, tk, os⟩ := s
    obtain ⟨hl, hb, h⟩ := h
    have f1 := PySem.AutoSeq1.idx_int
    have f2 := PySem.AutoSeq1.sub_tuple_tuple
    have f3 := PySem.AutoSeq1.sub_list_list
    have f4 := PySem.AutoSeq1.sub_tuple_list
    have f5 := PySem.AutoSeq1.sub_list_tuple
    have hz' : (items ++ items2).size ≤ sizeLine + 1 := by
      rw [Array.size_append]
      exact hs2
    wp_walk using (wpAny_updateSeq hl rfl (hz := hs1)
      (_hz' := hz')), PySem.AutoSeq1.wpAny_loadPart' hl, PySem.AutoSeq1.wpAny_loadPart' hb
    exact ⟨_, rfl, h⟩
end
section
variable {X : Cx} {e : Expr} {te : TE} {k : Nat} {p1 p2 p3 pos : Pos}
/-- e[::-1] of a tuple or a list -/
def tBack (K : PySem.W.Frag) (te : TE) : TE := fun σ H Q => te σ H fun x H1 => (∃ a xs, x = .ref a ∧ SqT K H1 a xs ∧ ∀ p, H1 p = none → Q (.ref p) (upd H1 p (.tup xs.reverse))) ∨
  ∃ a xs, x = .ref a ∧ SqL K H1 a xs ∧ ∀ p, H1 p = none → Q (.ref p) (upd H1 p (.lst xs.reverse))
theorem pe_back (he : PE X e te) : PE X (.Subscript e (.Slice none none (some (.UnaryOp .USub (.Constant (.int 1) k p1) p2)) p3) pos) (tBack X.K te) := by
  constructor
  intro pins s σ H Q I h
  apply Subscript_
  apply thn (he.run pins s σ H _ I h)
  rintro v s1 ⟨x, H1, I1, r1, q1⟩
  have hst : PO X (some (.UnaryOp .USub (.Constant (.int 1) k p1) p2)) (tPart (tUn (rU fun i => .int (-i)) (tC (.int 1)))) := po_some (pe_un un_neg pe_int)
  apply wpAny_Slice
  apply thn (po_none.run pins s1 σ H1 (fun o H2 => o = none ∧ H2 = H1) I1 ⟨rfl, rfl⟩)
  rintro vl s2 ⟨l, H2, I2, pl, el, e2⟩
  subst el e2
  apply thn (po_none.run pins s2 σ H2 (fun o H3 => o = none ∧ H3 = H2) I2 ⟨rfl, rfl⟩)
  rintro vu s3 ⟨u, H3, I3, pu, eu, e3⟩
  subst eu e3
  apply thn (hst.run pins s3 σ H3 (fun o H4 => o = some (-1) ∧ H4 = H3) I3 ⟨1, rfl, -1, rfl, rfl, rfl⟩)
  rintro vs s4 ⟨o, H4, I4, ps, eo, e4⟩
  subst eo e4
  have I5 : Inv X pins σ H4 { s4 with heap := s4.heap.push { cls := .type "slice", data := .fields #[vl, vu, vs] } } :=
    I4.kept (t' := s4.toks) fun b ob q => Heap.get?_push_of_some _ q
  rcases q1 with ⟨a, xs, rfl, hx, q⟩ | ⟨a, xs, rfl, hx, q⟩
  · cases r1
    cases pl
    cases pu
    cases ps
    obtain ⟨its, r, ht, hz⟩ := I5.tuple hx
    have hlen := r.length
    refine tail_any (value := e) (ops := [.ref a, .ref s4.heap.objs.size]) ht.typeIs slot_tuple_getitem.lookup ?_ (by with_unfolding_all rfl)
    refine tup_back ht (Heap.IsSliceOf.new _ _ _ _) ?_ (by rw [List.size_toArray]; omega)
    refine ⟨.ref _, _, I5.laid (t' := s4.toks) (o := .tup xs.reverse) (fun b ob q => Heap.get?_push_of_some _ q) (Nat.le_refl _) ?_, rfl, q _ (I5.hok.fresh (Nat.le_refl _))⟩
    exact ⟨by rw [List.length_reverse]; exact hz, _, r.reverse, IsTup.new _ _⟩
  · cases r1
    obtain ⟨its, r, ht, hz⟩ := I5.list hx
    have hlen := r.length
    refine tail_any (value := e) (ops := [.ref a, .ref s4.heap.objs.size]) ht.isList.typeIs (PySem.slot_list_getitem.lookup) ?_ (by with_unfolding_all rfl)
    refine wpAny_getItem_list_slice ht.isList (Heap.IsSliceOf.new _ vl vu vs) pl pu ps (by decide) ?_ (by rw [List.size_toArray]; omega)
    rw [PySem.W.krv_pick]
    refine ⟨.ref _, _, I5.laid (t' := s4.toks) (o := .lst xs.reverse) (fun b ob q => Heap.get?_push_of_some _ q) (Nat.le_refl _) ?_, rfl, q _ (I5.hok.fresh (Nat.le_refl _))⟩
    exact ⟨by rw [List.length_reverse]; exact hz, _, 0, r.reverse, Heap.get?_push_size _ rfl⟩
def rExtT (K : PySem.W.Frag) : V → List V → Hp → VK → Prop := fun x vs H Q => ∃ l b xs zs, x = .ref l ∧ vs = [.ref b] ∧ H l = some (.lst xs) ∧ SqT K H b zs ∧ xs.length + zs.length ≤ sizeLine ∧ Q .non (upd H l (.lst (xs ++ zs)))
theorem mt_extT : MtM X "list.extend" (rExtT X.K) := by
  intro pins s σ H x vs v us Q I rx rv h
  obtain ⟨l, b, xs, zs, rfl, rfl, hH, hB, hz, q⟩ := h
  cases rx
  obtain ⟨u, rfl, ru⟩ := rv.one
  cases ru
  obtain ⟨z, its, n, r, hl, e⟩ := I.lstM hH
  obtain ⟨its2, r2, ⟨⟨cls2, dd2, data2, sl2⟩, ho2, hc2, n2, hd2⟩, hz2⟩ := I.tuple hB
  simp only at hc2 hd2
  subst hc2 hd2
  have hl2 := r2.length
  have hsz : its.toArray.size + its2.toArray.size ≤ sizeLine := by rw [List.size_toArray, List.size_toArray]; omega
  refine call_meets F.slot_list_extend ⟨_, e, rfl⟩ F.entry_list_extend (F.args_list_extend_2 _ _)
    (ext_tup l its.toArray n b its2.toArray n2 dd2 sl2 ?_ (by rw [List.size_toArray]; omega) (by omega)) ⟨e, ho2, ?_⟩
  · rw [notLongL hsz, Bool.and_false]
    exact Bool.false_ne_true
  · refine ⟨.non, _, I.lset (its' := its ++ its2) hH e (by simp) (r.append r2) ?_, rfl, q⟩
    rw [List.length_append]
    omega
end
end DL

set_option Elab.async false
set_option linter.all false
set_option maxRecDepth 100000
set_option maxHeartbeats 4000000
/-! lists of one's own that change; loops; comprehensions -/
namespace DL
open PySem PySem.Spec PyProof.Rows L2
variable [Tb]
section
variable {c : Cd} {sd : SD} {os : List (Option Addr)} {σ : L2.St} {H H' : Hp}
theorem hid_upd {O : List Addr} {a : Addr} {o : HO} (h : a ∈ O) : hid O (upd H a o) = hid O H := by
  funext b
  by_cases m : b ∈ O
  · rw [hid_in m, hid_in m]
  · rw [hid_out m, hid_out m, upd_ne (fun e => m (by rw [e]; exact h))]
theorem ext_upd {S : List Addr} {H0 : Hp} {a : Addr} {o : HO} (x : Ext S H0 H) (hn : H0 a = none) (hs : a ∉ S) : Ext S H0 (upd H a o) := by
  refine ⟨fun b u n e => ?_, fun k => ?_⟩
  · rw [upd_ne (ne_of_none e hn)]; exact x.st b u n e
  · have ts : ∀ P ∈ (Tb.Ts : List Addr), P ∈ S := fun P m => by
      rcases (x.so k).1 with e | ⟨p, q, e, _⟩
      · rw [e]; exact m
      · rw [e]; exact List.mem_cons_of_mem _ (List.mem_cons_of_mem _ m)
    refine ⟨?_, fun P m => ?_⟩
    · rcases (x.so k).1 with e | ⟨p, q, e, cs, l, m, t, h1, h2, h3⟩
      · exact .inl e
      · refine .inr ⟨p, q, e, cs, l, m, t, ?_, ?_, h3⟩
        · rw [upd_ne (fun z => hs (by rw [e, ← z]; exact List.mem_cons_self))]; exact h1
        · rw [upd_ne (fun z => hs (by rw [e, ← z]; exact List.mem_cons_of_mem _ List.mem_cons_self))]; exact h2
    · obtain ⟨ps, e, r⟩ := (x.so k).2 P m
      exact ⟨ps, by rw [upd_ne (fun z => hs (by rw [← z]; exact ts P m))]; exact e, r⟩
/-- a hidden list changes -/
theorem R.updO (r : R c sd os σ H) {a : Addr} {o : HO} (ha : a ∈ c.Oc) (hs : a ∉ c.S) (h0 : c.H0 a = none) (ho : IsOwn o) : R c sd os σ (upd H a o) := by
  have hO : a ∈ OO c os := mem_OO.mpr (.inl ha)
  refine ⟨ext_upd r.ext h0 hs, r.src, r.sin, fun b m => ?_, r.lend, r.leno, fun i s v oa h1 h2 h3 => ?_, r.uniq, fun p m => by rw [hid_upd hO]; exact r.tmp p m, r.dis⟩
  · by_cases e : b = a
    · rw [e]; exact .inr ⟨_, upd_same, ho⟩
    · rw [upd_ne e]; exact r.ocl b m
  · have q := r.slot i s v oa h1 h2 h3
    cases s with
    | un => exact q
    | so => exact q
    | fn _ => exact q
    | va d => obtain ⟨q1, y, q2, q3⟩ := q; exact ⟨q1, y, q2, by rw [hid_upd hO]; exact q3⟩
    | ow ds =>
      obtain ⟨b, ys, q1, q2, q3, q4, q5⟩ := q
      subst q1
      by_cases e : b = a
      · -- the caller's lists are not one's own
        exact absurd (by rw [e]; exact ha) (r.dis b (List.mem_of_getElem? h3))
      · exact ⟨b, ys, rfl, q2, by rw [upd_ne e]; exact q3, by rw [hid_upd hO]; exact q4, q5⟩
    | od ds =>
      obtain ⟨b, ys, q1, q2, q3, q4, q5⟩ := q
      subst q1
      by_cases e : b = a
      · exact absurd (by rw [e]; exact ha) (r.dis b (List.mem_of_getElem? h3))
      · exact ⟨b, ys, rfl, q2, by rw [upd_ne e]; exact q3, by rw [hid_upd hO]; exact q4, q5⟩
/-- a list of one's own changes -/
theorem R.updG (r : R c sd os σ H) {i : Nat} {a : Addr} {o : HO} {z : SV} (hi : os[i]? = some (some a)) (ho : IsOwn o) (h : c.H0 a = none → SlotR c (OO c os) (upd H a o) z (some (.ref a)) (some a)) :
    R c (sd.set i z) os σ (upd H a o) := by
  have hm : some a ∈ os := List.mem_of_getElem? hi
  have hO : a ∈ OO c os := mem_OO.mpr (.inr hm)
  obtain ⟨i', s0, o0, g1, g1', g2, g3, g4, g5, g6⟩ := r.ownAt hm
  have ei : i' = i := r.uniq _ _ _ g3 hi
  subst ei
  have hs := own_notS r hm
  refine ⟨ext_upd r.ext g6 hs, r.src, r.sin, fun b m => ?_, by simp [r.lend], r.leno, fun j s v oa h1 h2 h3 => ?_, r.uniq, fun p m => by rw [hid_upd hO]; exact r.tmp p m, r.dis⟩
  · by_cases e : b = a
    · rw [e]; exact .inr ⟨_, upd_same, ho⟩
    · rw [upd_ne e]; exact r.ocl b m
  · rcases set_get h1 with ⟨ej, e1⟩ | ⟨nj, e1⟩
    · subst ej e1
      rw [g3] at h3; cases h3
      rw [g2] at h2; cases h2
      exact h g6
    · have q := r.slot j s v oa e1 h2 h3
      cases s with
      | un => exact q
      | so => exact q
      | fn _ => exact q
      | va d => obtain ⟨q1, y, q2, q3⟩ := q; exact ⟨q1, y, q2, by rw [hid_upd hO]; exact q3⟩
      | ow ds =>
        obtain ⟨b, ys, q1, q2, q3, q4, q5⟩ := q
        subst q1
        refine ⟨b, ys, rfl, q2, ?_, by rw [hid_upd hO]; exact q4, q5⟩
        rw [upd_ne (fun e => nj (r.uniq _ _ a (by rw [← e]; exact h3) g3))]
        exact q3
      | od ds =>
        obtain ⟨b, ys, q1, q2, q3, q4, q5⟩ := q
        subst q1
        refine ⟨b, ys, rfl, q2, ?_, by rw [hid_upd hO]; exact q4, q5⟩
        rw [upd_ne (fun e => nj (r.uniq _ _ a (by rw [← e]; exact h3) g3))]
        exact q3
theorem R.upd (r : R c sd os σ H) {i : Nat} {a : Addr} {xs : List V} {ds : List PyData} (hi : os[i]? = some (some a)) (h : DxAll c.K (hid (OO c os) H) xs ds) :
    R c (sd.set i (.ow ds)) os σ (upd H a (.lst xs)) :=
  r.updG hi own_lst fun g6 => ⟨a, xs, rfl, rfl, upd_same, by rw [hid_upd (mem_OO.mpr (.inr (List.mem_of_getElem? hi)))]; exact h, g6⟩
/-- a dict of one's own changes -/
theorem R.updD (r : R c sd os σ H) {i : Nat} {a : Addr} {o : HO} {es : List (PyData × PyData)} (hi : os[i]? = some (some a)) (h : DE c.K (hid (OO c os) H) o es) :
    R c (sd.set i (.od es)) os σ (L2.upd H a o) :=
  r.updG hi h.own fun g6 => ⟨a, o, rfl, rfl, upd_same, by rw [hid_upd (mem_OO.mpr (.inr (List.mem_of_getElem? hi)))]; exact h, g6⟩
end
end DL

set_option Elab.async false
set_option linter.all false
set_option maxRecDepth 100000
set_option maxHeartbeats 4000000
namespace DL
open PySem PySem.Spec PyProof.Rows L2
variable [Tb]
section
variable {X : Cx} {e : Expr} {es : List Expr} {pos p apos cpos : Pos} {x : Str}
/-! ### append, extend, pop at a name that holds a list of one's own -/
def onOw (i : Nat) (sd : SD) (k : List PyData → Prop) : Prop := match getS sd i with
  | .ow ds => k ds
  | _ => False
theorem onOw_get {i : Nat} {sd : SD} {k : List PyData → Prop} (q : onOw i sd k) : ∃ ds, getS sd i = .ow ds ∧ k ds := by
  unfold onOw at q
  cases es : getS sd i with
  | ow ds => rw [es] at q; exact ⟨ds, rfl, q⟩
  | un => rw [es] at q; exact q.elim
  | va d => rw [es] at q; exact q.elim
  | so => rw [es] at q; exact q.elim
  | fn _ => rw [es] at q; exact q.elim
  | od _ => rw [es] at q; exact q.elim
theorem onOw_put {i : Nat} {sd : SD} {k : List PyData → Prop} {ds : List PyData} (e : getS sd i = .ow ds) (q : k ds) : onOw i sd k := by
  unfold onOw
  rw [e]
  exact q
def wAppend (i : Nat) (we : WR) : WS := fun E sd => onOw i sd fun ds => we sd fun z => ds.length < sizeLine ∧ E.nx (sd.set i (.ow (ds ++ [z.dat])))
theorem evs_append {we : WR} (i : Nat) (h : EvR X e we) (hN : X.N[i]? = some x := by rfl)
    (hv : Vis X.env.scope x := by first | exact Or.inl rfl | exact Or.inr (Or.inl rfl) | exact Or.inr (Or.inr rfl))
    (hd : (x == ("__debug__" : Str)) = false := by decide) (hcd : (x == ("__classdict__" : Str)) = false := by decide)
    (hbase : attributeBase (.Name x p) "append" X.env (eval (.Name x p) X.env) = eval (.Name x p) X.env := by rfl)
    (hfew : ((backTo cpos (starEach [e] X.env)).all (fun x => !x.1) && (backToKw cpos (keywordEach [] X.env)).all (fun x => x.1.isSome)
      && decide ([e].length + ([] : List Keyword).length + (if ([] : List Keyword).isEmpty then 0 else 1) < 30)) = true := by rfl)
    (hline : (apos.endLine == cpos.line) = true := by rfl) (hs : starEach [e] X.env = (false, eval e X.env) :: starEach [] X.env := by rfl)
    (hplain : (backTo cpos (starEach [] X.env)).any (·.1) = false := by rfl) (hsw : swapsWith (.Call (.Attribute (.Name x p) "append" apos) [e] [] cpos) none pos.line X.env = pure false := by rfl) :
    EvS X (.Expr (.Call (.Attribute (.Name x p) "append" apos) [e] [] cpos) pos) (wAppend i we) where
  ps := PS.weak (ps_expr (pe_bm F.plainAttrs_list F.slot_list_append F.type_list_append mt_append (pe_var hN hv hd hcd) (pa_cons h.pe pa_nil hs) hbase hfew hline hs hplain) hsw)
    fun D σ H ⟨c, sd, os, E, hk, r, er, q⟩ => by
    obtain ⟨ds, es, q⟩ := onOw_get q
    obtain ⟨v, oa, h1, h2, a, xs, rfl, rfl, h3, h4, h5⟩ := r.at_ es (by intro z; cases z)
    have na := own_notS r (List.mem_of_getElem? h2)
    refine ⟨_, h1, .inl ⟨rfl, _, .inl (.inl h3)⟩, c, sd, os, hk, r, h.mo _ _ _ (fun z kz y H1 x1 rv => ?_) q⟩
    have g3 := x1.st a _ na h3
    have g4 := DxAll.grow r.sO x1 h4
    refine ⟨a, xs, y, rfl, rfl, g3, by rw [h4.len]; exact kz.1, ?_⟩
    refine er.nx _ _ _ _ (R.upd (r.grow x1) h2 (g4.app (.cons ?_ .nil))) kz.2
    rw [hk]
    exact RvR.cl rv fun b m => r.there m
  mo := fun E E' sd h1 _ _ _ q => by
    obtain ⟨ds, es, q⟩ := onOw_get q
    exact onOw_put es (h.mo _ _ _ (fun z y => ⟨y.1, h1 _ y.2⟩) q)
def dItems (d : PyData) (k : List PyData → Prop) : Prop := match d with
  | .list ds => k ds
  | .tuple ds => k ds
  | _ => False
theorem dItems_mo {d : PyData} {k k' : List PyData → Prop} (h : ∀ ds, k ds → k' ds) (q : dItems d k) : dItems d k' := by
  cases d with
  | list ds => exact h _ q
  | tuple ds => exact h _ q
  | _ => exact q.elim
def wExtend (i : Nat) (we : WD) : WS := fun E sd => onOw i sd fun ds => we sd fun d => dItems d fun zs => ds.length + zs.length ≤ sizeLine ∧ E.nx (sd.set i (.ow (ds ++ zs)))
theorem evs_extend {we : WD} (i : Nat) (h : Ev .sh X e we) (hN : X.N[i]? = some x := by rfl)
    (hv : Vis X.env.scope x := by first | exact Or.inl rfl | exact Or.inr (Or.inl rfl) | exact Or.inr (Or.inr rfl))
    (hd : (x == ("__debug__" : Str)) = false := by decide) (hcd : (x == ("__classdict__" : Str)) = false := by decide)
    (hbase : attributeBase (.Name x p) "extend" X.env (eval (.Name x p) X.env) = eval (.Name x p) X.env := by rfl)
    (hfew : ((backTo cpos (starEach [e] X.env)).all (fun x => !x.1) && (backToKw cpos (keywordEach [] X.env)).all (fun x => x.1.isSome)
      && decide ([e].length + ([] : List Keyword).length + (if ([] : List Keyword).isEmpty then 0 else 1) < 30)) = true := by rfl)
    (hline : (apos.endLine == cpos.line) = true := by rfl) (hs : starEach [e] X.env = (false, eval e X.env) :: starEach [] X.env := by rfl)
    (hplain : (backTo cpos (starEach [] X.env)).any (·.1) = false := by rfl) (hsw : swapsWith (.Call (.Attribute (.Name x p) "extend" apos) [e] [] cpos) none pos.line X.env = pure false := by rfl) :
    EvS X (.Expr (.Call (.Attribute (.Name x p) "extend" apos) [e] [] cpos) pos) (wExtend i we) where
  ps := PS.weak (ps_expr (pe_bm F.plainAttrs_list F.slot_list_extend F.type_list_extend (MtR.or mt_extend mt_extT) (pe_var hN hv hd hcd) (pa_cons h.pe pa_nil hs) hbase hfew hline hs hplain) hsw)
    fun D σ H ⟨c, sd, os, E, hk, r, er, q⟩ => by
    obtain ⟨ds, es, q⟩ := onOw_get q
    obtain ⟨v, oa, h1, h2, a, xs, rfl, rfl, h3, h4, h5⟩ := r.at_ es (by intro z; cases z)
    have na := own_notS r (List.mem_of_getElem? h2)
    refine ⟨_, h1, .inl ⟨rfl, _, .inl (.inl h3)⟩, c, sd, os, hk, r, h.mo _ _ _ (fun d kz y H1 x1 dm => ?_) q⟩
    have g3 := x1.st a _ na h3
    have g4 := DxAll.grow r.sO x1 h4
    cases d with
    | list zs =>
      obtain ⟨b, us, rfl, d1, d2⟩ := dm
      refine .inl ⟨a, b, xs, us, rfl, rfl, g3, (hid_some d1).2, by rw [h4.len, d2.len]; exact kz.1, ?_⟩
      exact er.nx _ _ _ _ (R.upd (r.grow x1) h2 (g4.app (by rw [hk]; exact d2))) kz.2
    | tuple zs =>
      obtain ⟨b, us, rfl, d1, d2⟩ := shTup dm
      refine .inr ⟨a, b, xs, us, rfl, rfl, g3, SqT.same hid_sub d1, by rw [h4.len, d2.len]; exact kz.1, ?_⟩
      exact er.nx _ _ _ _ (R.upd (r.grow x1) h2 (g4.app (by rw [hk]; exact d2))) kz.2
    | _ => exact kz.elim
  mo := fun E E' sd h1 _ _ _ q => by
    obtain ⟨ds, es, q⟩ := onOw_get q
    exact onOw_put es (h.mo _ _ _ (fun z y => dItems_mo (fun zs y => ⟨y.1, h1 _ y.2⟩) y) q)

/-! ### expressions that change lists of one's own -/
abbrev WM := SD → (RV → SD → Prop) → Prop
def tMu (K : PySem.W.Frag) (w : WM) : TE := fun σ H Q => ∃ (c : Cd) (sd : SD) (os : List (Option Addr)), c.K = K ∧ R c sd os σ H ∧
  w sd fun z sd' => ∀ v H1 H' os', R c sd' os' σ H1 → Ext c.S H1 H' → RvR K (OO c os') H1 H' v z → Q v H'
structure EvM (X : Cx) (e : Expr) (w : WM) : Prop where
  pe : PE X e (tMu X.K w)
  mo : ∀ sd (Q Q' : RV → SD → Prop), (∀ r s, Q r s → Q' r s) → w sd Q → w sd Q'
theorem EvR.m {w : WR} (h : EvR X e w) : EvM X e (fun sd Q => w sd fun z => Q z sd) where
  pe := PE.weak h.pe fun σ H Q ⟨c, sd, os, hk, r, q⟩ => ⟨c, sd, os, hk, r, h.mo _ _ _ (fun z k v H' x rv => k v H H' os r x rv) q⟩
  mo := fun sd Q Q' k q => h.mo _ _ _ (fun r z => k _ _ z) q
def wPop (i : Nat) : WM := fun sd Q => onOw i sd fun ds => match ds.getLast? with
  | some d => Q (.va d) (sd.set i (.ow ds.dropLast))
  | none => False
theorem DxAll.dropLast {K : PySem.W.Frag} {H : Hp} {vs : List V} {ds : List PyData} (h : DxAll K H vs ds) : DxAll K H vs.dropLast ds.dropLast := by
  rw [List.dropLast_eq_take, List.dropLast_eq_take, h.len]
  exact h.take _
theorem evm_pop (i : Nat) (hN : X.N[i]? = some x := by rfl)
    (hv : Vis X.env.scope x := by first | exact Or.inl rfl | exact Or.inr (Or.inl rfl) | exact Or.inr (Or.inr rfl))
    (hd : (x == ("__debug__" : Str)) = false := by decide) (hcd : (x == ("__classdict__" : Str)) = false := by decide)
    (hbase : attributeBase (.Name x p) "pop" X.env (eval (.Name x p) X.env) = eval (.Name x p) X.env := by rfl) (hline : (apos.endLine == cpos.line) = true := by rfl) :
    EvM X (.Call (.Attribute (.Name x p) "pop" apos) [] [] cpos) (wPop i) where
  pe := PE.weak (pe_bm0 F.plainAttrs_list F.slot_list_pop F.type_list_pop mt_pop (pe_var hN hv hd hcd) hbase hline) fun σ H Q ⟨c, sd, os, hk, r, q⟩ => by
    obtain ⟨ds, es, q⟩ := onOw_get q
    obtain ⟨v, oa, h1, h2, a, xs, rfl, rfl, h3, h4, h5⟩ := r.at_ es (by intro z; cases z)
    cases g : ds.getLast? with
    | none => rw [g] at q; exact q.elim
    | some d =>
      rw [g] at q
      rw [List.getLast?_eq_getElem?] at g
      obtain ⟨y, g1, g2⟩ := h4.get g
      refine ⟨_, h1, .inl ⟨rfl, _, .inl (.inl h3)⟩, a, xs, y, rfl, rfl, h3, by rw [h4.len]; exact g1, ?_⟩
      have hO : a ∈ OO c os := mem_OO.mpr (.inr (List.mem_of_getElem? h2))
      refine q y _ _ os (R.upd r h2 h4.dropLast) Ext.refl ?_
      show Dx X.K (hid (OO c os) _) y d
      rw [hid_upd hO, ← hk]
      exact g2
  mo := fun sd Q Q' k q => by
    obtain ⟨ds, es, q⟩ := onOw_get q
    refine onOw_put es ?_
    cases g : ds.getLast? with
    | none => rw [g] at q; exact q.elim
    | some d => rw [g] at q; exact k _ _ q
/-- a list of one's own is handed on: from now on nobody changes it -/
theorem R.frz {c : Cd} {sd : SD} {os : List (Option Addr)} {σ : L2.St} {H : Hp} {i : Nat} {ds : List PyData} (r : R c sd os σ H) (es : getS sd i = .ow ds) :
    ∃ v, σ[i]? = some (some v) ∧ R c (sd.set i (.va (.list ds))) (os.set i none) σ H ∧ Dx c.K (hid (OO c (os.set i none)) H) v (.list ds) := by
  obtain ⟨v, oa, h1, h2, a, xs, rfl, rfl, h3, h4, h5⟩ := r.at_ es (by intro z; cases z)
  have nO : a ∉ OO c (os.set i none) := fun m => by
    rcases mem_OO.mp m with q | q
    · exact r.dis a (List.mem_of_getElem? h2) q
    · obtain ⟨j, hj, e⟩ := List.getElem_of_mem q
      rcases set_get (show (os.set i none)[j]? = some (some a) by rw [List.getElem?_eq_getElem hj, e]) with ⟨_, z⟩ | ⟨n, z⟩
      · cases z
      · exact n (r.uniq j i a z h2)
  have sub : Same (hid (OO c os) H) (hid (OO c (os.set i none)) H) := hid_same (fun _ _ _ h => h) fun b m => by
    rcases mem_OO.mp m with q | q
    · exact .inl (mem_OO.mpr (.inl q))
    · obtain ⟨j, hj, e⟩ := List.getElem_of_mem q
      rcases set_get (show (os.set i none)[j]? = some (some b) by rw [List.getElem?_eq_getElem hj, e]) with ⟨_, z⟩ | ⟨_, z⟩
      · cases z
      · exact .inl (mem_OO.mpr (.inr (List.mem_of_getElem? z)))
  have dx : Dx c.K (hid (OO c (os.set i none)) H) (.ref a) (.list ds) := .lst (by rw [hid_out nO]; exact h3) (DxAll.same sub _ _ h4)
  refine ⟨_, h1, ⟨r.ext, r.src, r.sin, r.ocl, by simp [r.lend], by simp [r.leno], fun j s w oa g1 g2 g3 => ?_, fun j k b g1 g2 => ?_, fun p m => Dx.same sub _ _ (r.tmp p m), fun b m => ?_⟩, dx⟩
  · rcases set_get g1 with ⟨ej, e1⟩ | ⟨nj, e1⟩
    · subst ej e1
      rcases set_get g3 with ⟨_, e3⟩ | ⟨n, _⟩
      · subst e3
        rw [h1] at g2; cases g2
        exact ⟨rfl, _, rfl, dx⟩
      · exact absurd rfl n
    · rcases set_get g3 with ⟨n, _⟩ | ⟨_, e3⟩
      · exact absurd n nj
      · have q := r.slot j s w oa e1 g2 e3
        cases s with
        | un => exact q
        | so => exact q
        | fn _ => exact q
        | va d => obtain ⟨q1, y, q2, q3⟩ := q; exact ⟨q1, y, q2, Dx.same sub _ _ q3⟩
        | ow ds => obtain ⟨a, xs, q1, q2, q3, q4, q5⟩ := q; exact ⟨a, xs, q1, q2, q3, DxAll.same sub _ _ q4, q5⟩
        | od ds => obtain ⟨a, xs, q1, q2, q3, q4, q5⟩ := q; exact ⟨a, xs, q1, q2, q3, DE.same sub q4, q5⟩
  · rcases set_get g1 with ⟨_, e⟩ | ⟨n1, e1⟩
    · cases e
    · rcases set_get g2 with ⟨_, e⟩ | ⟨n2, e2⟩
      · cases e
      · exact r.uniq j k b e1 e2
  · obtain ⟨j, hj, e⟩ := List.getElem_of_mem m
    rcases set_get (show (os.set i none)[j]? = some (some b) by rw [List.getElem?_eq_getElem hj, e]) with ⟨_, z⟩ | ⟨_, z⟩
    · cases z
    · exact r.dis b (List.mem_of_getElem? z)
/-- a list of one's own is handed on: from now on nobody changes it -/
theorem R.frzO {c : Cd} {sd : SD} {os : List (Option Addr)} {σ : L2.St} {H : Hp} {i : Nat} {ds : List (PyData × PyData)} (r : R c sd os σ H) (es : getS sd i = .od ds) :
    ∃ v, σ[i]? = some (some v) ∧ R c (sd.set i (.va (.dict ds))) (os.set i none) σ H ∧ Dx c.K (hid (OO c (os.set i none)) H) v (.dict ds) := by
  obtain ⟨v, oa, h1, h2, a, xs, rfl, rfl, h3, h4, h5⟩ := r.at_ es (by intro z; cases z)
  have nO : a ∉ OO c (os.set i none) := fun m => by
    rcases mem_OO.mp m with q | q
    · exact r.dis a (List.mem_of_getElem? h2) q
    · obtain ⟨j, hj, e⟩ := List.getElem_of_mem q
      rcases set_get (show (os.set i none)[j]? = some (some a) by rw [List.getElem?_eq_getElem hj, e]) with ⟨_, z⟩ | ⟨n, z⟩
      · cases z
      · exact n (r.uniq j i a z h2)
  have sub : Same (hid (OO c os) H) (hid (OO c (os.set i none)) H) := hid_same (fun _ _ _ h => h) fun b m => by
    rcases mem_OO.mp m with q | q
    · exact .inl (mem_OO.mpr (.inl q))
    · obtain ⟨j, hj, e⟩ := List.getElem_of_mem q
      rcases set_get (show (os.set i none)[j]? = some (some b) by rw [List.getElem?_eq_getElem hj, e]) with ⟨_, z⟩ | ⟨_, z⟩
      · cases z
      · exact .inl (mem_OO.mpr (.inr (List.mem_of_getElem? z)))
  have dx : Dx c.K (hid (OO c (os.set i none)) H) (.ref a) (.dict ds) := DE.dx (by rw [hid_out nO]; exact h3) (DE.same sub h4)
  refine ⟨_, h1, ⟨r.ext, r.src, r.sin, r.ocl, by simp [r.lend], by simp [r.leno], fun j s w oa g1 g2 g3 => ?_, fun j k b g1 g2 => ?_, fun p m => Dx.same sub _ _ (r.tmp p m), fun b m => ?_⟩, dx⟩
  · rcases set_get g1 with ⟨ej, e1⟩ | ⟨nj, e1⟩
    · subst ej e1
      rcases set_get g3 with ⟨_, e3⟩ | ⟨n, _⟩
      · subst e3
        rw [h1] at g2; cases g2
        exact ⟨rfl, _, rfl, dx⟩
      · exact absurd rfl n
    · rcases set_get g3 with ⟨n, _⟩ | ⟨_, e3⟩
      · exact absurd n nj
      · have q := r.slot j s w oa e1 g2 e3
        cases s with
        | un => exact q
        | so => exact q
        | fn _ => exact q
        | va d => obtain ⟨q1, y, q2, q3⟩ := q; exact ⟨q1, y, q2, Dx.same sub _ _ q3⟩
        | ow ds => obtain ⟨a, xs, q1, q2, q3, q4, q5⟩ := q; exact ⟨a, xs, q1, q2, q3, DxAll.same sub _ _ q4, q5⟩
        | od ds => obtain ⟨a, xs, q1, q2, q3, q4, q5⟩ := q; exact ⟨a, xs, q1, q2, q3, DE.same sub q4, q5⟩
  · rcases set_get g1 with ⟨_, e⟩ | ⟨n1, e1⟩
    · cases e
    · rcases set_get g2 with ⟨_, e⟩ | ⟨n2, e2⟩
      · cases e
      · exact r.uniq j k b e1 e2
  · obtain ⟨j, hj, e⟩ := List.getElem_of_mem m
    rcases set_get (show (os.set i none)[j]? = some (some b) by rw [List.getElem?_eq_getElem hj, e]) with ⟨_, z⟩ | ⟨_, z⟩
    · cases z
    · exact r.dis b (List.mem_of_getElem? z)
def wFrz (i : Nat) : WM := fun sd Q => match getS sd i with
  | .ow ds => Q (.va (.list ds)) (sd.set i (.va (.list ds)))
  | .od es => Q (.va (.dict es)) (sd.set i (.va (.dict es)))
  | .va d => Q (.va d) sd
  | _ => False
theorem evm_frz (i : Nat) (hN : X.N[i]? = some x := by rfl)
    (hv : Vis X.env.scope x := by first | exact Or.inl rfl | exact Or.inr (Or.inl rfl) | exact Or.inr (Or.inr rfl))
    (hd : (x == ("__debug__" : Str)) = false := by decide) (hcd : (x == ("__classdict__" : Str)) = false := by decide) : EvM X (.Name x pos) (wFrz i) where
  pe := PE.weak (pe_var hN hv hd hcd) fun σ H Q ⟨c, sd, os, hk, r, q⟩ => by
    unfold wFrz at q
    cases es : getS sd i with
    | ow ds =>
      rw [es] at q
      obtain ⟨v, h1, r', dx⟩ := r.frz es
      exact ⟨v, h1, q v H H _ r' Ext.refl (show Dx X.K _ v _ by rw [← hk]; exact dx)⟩
    | od ds =>
      rw [es] at q
      obtain ⟨v, h1, r', dx⟩ := r.frzO es
      exact ⟨v, h1, q v H H _ r' Ext.refl (show Dx X.K _ v _ by rw [← hk]; exact dx)⟩
    | va d =>
      rw [es] at q
      obtain ⟨v, oa, h1, h2, h3, y, rfl, h4⟩ := r.at_ es (by intro z; cases z)
      exact ⟨y, h1, q y H H os r Ext.refl (show Dx X.K _ y d by rw [← hk]; exact h4)⟩
    | un => rw [es] at q; exact q.elim
    | so => rw [es] at q; exact q.elim
    | fn _ => rw [es] at q; exact q.elim
  mo := fun sd Q Q' k q => by
    unfold wFrz at q ⊢
    cases es : getS sd i with
    | ow ds => rw [es] at q; exact k _ _ q
    | od ds => rw [es] at q; exact k _ _ q
    | va ds => rw [es] at q; exact k _ _ q
    | un => rw [es] at q; exact q.elim
    | so => rw [es] at q; exact q.elim
    | fn _ => rw [es] at q; exact q.elim
/-- name = such an expression -/
theorem evs_setM {we : WM} {pos' : Pos} (i : Nat) (h : EvM X e we) (hN : X.N.Nodup) (hi : X.N[i]? = some x := by rfl) (hx : Loc X.env.scope x := by first | exact Or.inl rfl | exact Or.inr rfl)
    (hs : swapsWith e (some (.Name x pos')) pos.line X.env = pure false := by rfl) (hf : X.fn x = true ∨ X.env.scope.names.lookup x = some .local := by first | exact .inl rfl | exact .inr rfl) :
    EvS X (.Assign [.Name x pos'] e pos) (fun E sd => we sd fun z sd' => E.nx (sd'.set i z.sv)) where
  ps := PS.weak (ps_set hN hi hx h.pe hs hf) fun D σ H ⟨c, sd, os, E, hk, r, er, q⟩ => ⟨c, sd, os, hk, r, h.mo _ _ _ (fun z sd' kz v H1 H' os' r1 x rv => by
    obtain ⟨oa, r'⟩ := R.set (i := i) r1 x (by rw [hk]; exact rv)
    exact er.nx _ _ _ _ r' kz) q⟩
  mo := fun E E' sd h1 _ _ _ q => h.mo _ _ _ (fun z s y => h1 _ y) q
theorem evs_dropM {we : WM} (h : EvM X e we) (hs : swapsWith e none pos.line X.env = pure false := by rfl) : EvS X (.Expr e pos) (fun E sd => we sd fun _ sd' => E.nx sd') where
  ps := PS.weak (ps_expr h.pe hs) fun D σ H ⟨c, sd, os, E, hk, r, er, q⟩ => ⟨c, sd, os, hk, r, h.mo _ _ _ (fun z sd' kz v H1 H' os' r1 x rv => er.nx _ _ _ _ (r1.grow x) kz) q⟩
  mo := fun E E' sd h1 _ _ _ q => h.mo _ _ _ (fun z s y => h1 _ y) q
/-- f(such an expression) -/
theorem evm_call1 {k n : Nat} {f : Addr} {fd : FuncData} {ps : List Str} {fs : FSp} {we : WM} (F : FnG X.prog X.w X.K X.mg X.base CX0 k f fd ps (PSp X.K n fs)) (hmo : MoF fs) (hr : RmG k X.A) (hm : X.mg x = some (.ref f))
    (hk : PySem.W.keepIn X.K (.ref f) = true) (hb : Binds X.K fd ps []) (h : EvM X e we) (hg : Gl X x := by rfl) (hn : 1 = n := by rfl)
    (hdb : (x == ("__debug__" : Str)) = false := by decide)
    (he : starEach [e] X.env = (false, eval e X.env) :: starEach [] X.env := by rfl)
    (hpl : (backTo pos (starEach [] X.env)).any (·.1) = false := by rfl) :
    EvM X (.Call (.Name x p) [e] [] pos) (fun sd Q => we sd fun z sd' => fs [.va z.dat] fun r => Q r sd') where
  pe := PE.weak (pe_callG F hr hg hm hk hb pass0 (pa_cons h.pe pa_nil he) hdb he hpl) fun σ H Q ⟨c, sd, os, hk, r, q⟩ =>
    ⟨c, sd, os, hk, r, h.mo _ _ _ (fun z sd' kz v H1 H' os' r1 x1 rv => by
      have r2 := r1.grow x1
      refine ⟨c.S, OO c os', [.va z.dat], r2.srcNow, r1.sO, r2.ocNow, .va (RvR.cl rv fun b m => r1.there m) .nil, hn, hmo _ _ _ (fun y ky u H2 x2 rv2 => ?_) kz⟩
      exact ky u H' H2 os' r2 x2 rv2) q⟩
  mo := fun sd Q Q' k q => h.mo _ _ _ (fun z s y => hmo _ _ _ (fun r y => k _ _ y) y) q

/-! ### while -/
/-- what a loop's body is to reach -/
def loopE (E : ED) (P : SD → Prop) : ED := { nx := P, rt := E.rt, bk := E.nx, ct := P }
def wWhile (t : WB) (wb : WS) : WS := fun E sd => ∃ I : Nat → SD → Prop, (∃ m, I m sd) ∧ ∀ m sd, I m sd → t sd fun b =>
  if b = true then wb (loopE E fun s => ∃ m', m' < m ∧ I m' s) sd else E.nx sd
theorem evs_while {tst : Expr} {body : List Stmt} {t : WB} {wb : WS} (hc : EvT X tst t) (hb : EvB X body wb) (hp : PassesOwn (model X.prog X.w) X.A X.env X.xe := by exact PassesOwn.never) :
    EvS X (.While tst body [] pos) (wWhile t wb) where
  ps := PS.weak (ps_while hp hc.pt hb.ps) fun D σ H ⟨c, sd, os, E, hk, r, er, I, ⟨m0, i0⟩, q⟩ => by
    refine ⟨fun m σ H => ∃ sd os, R c sd os σ H ∧ I m sd, ⟨m0, sd, os, r, i0⟩, fun m σ H ⟨sd, os, r, im⟩ => ?_⟩
    refine ⟨c, sd, os, hk, r, hc.mo _ _ _ (fun b kb H1 x1 => ?_) (q m sd im)⟩
    cases b with
    | false => exact er.nx _ _ _ _ (r.grow x1) kb
    | true =>
      refine ⟨fun σ' H' => ∃ sd os, R c sd os σ' H' ∧ ∃ m', m' < m ∧ I m' sd, fun σ' H' ⟨sd, os, r, m', l, i⟩ => ⟨m', l, sd, os, r, i⟩, ?_⟩
      exact ⟨c, sd, os, loopE E fun s => ∃ m', m' < m ∧ I m' s, hk, r.grow x1, ⟨fun sd os σ H r k => ⟨sd, os, r, k⟩, er.nx, fun sd os σ H r k => ⟨sd, os, r, k⟩, er.rt⟩, kb⟩
  mo := fun E E' sd h1 h2 h3 h4 ⟨I, i0, q⟩ => ⟨I, i0, fun m sd im => hc.mo _ _ _ (fun b kb => by
    cases b with
    | true => exact hb.mo (loopE E fun s => ∃ m', m' < m ∧ I m' s) (loopE E' fun s => ∃ m', m' < m ∧ I m' s) sd (fun _ z => z) h2 h1 (fun _ z => z) kb
    | false => exact h1 _ kb) (q m sd im)⟩
end
end DL

set_option Elab.async false
set_option linter.all false
set_option maxRecDepth 100000
set_option maxHeartbeats 4000000
/-! targets, for, comprehensions, defs -/
namespace DL
open PySem PySem.Spec PyProof.Rows L2
variable [Tb]
/-! ### targets -/
abbrev WG := PyData → SD → (SD → Prop) → Prop
abbrev WGs := List PyData → SD → (SD → Prop) → Prop
/-- only the slots told are other ones -/
def But (is : List Nat) (σ σ' : L2.St) (os os' : List (Option Addr)) : Prop := σ'.length = σ.length ∧ ∀ j, j ∉ is → σ'[j]? = σ[j]? ∧ os'[j]? = os[j]?
theorem But.refl {is : List Nat} {σ : L2.St} {os : List (Option Addr)} : But is σ σ os os := ⟨rfl, fun _ _ => ⟨rfl, rfl⟩⟩
theorem But.trans {is js : List Nat} {σ σ1 σ2 : L2.St} {os os1 os2 : List (Option Addr)} (a : But is σ σ1 os os1) (b : But js σ1 σ2 os1 os2) : But (is ++ js) σ σ2 os os2 :=
  ⟨b.1.trans a.1, fun j n => by
    obtain ⟨x1, x2⟩ := a.2 j fun m => n (List.mem_append_left _ m)
    obtain ⟨y1, y2⟩ := b.2 j fun m => n (List.mem_append_right _ m)
    exact ⟨y1.trans x1, y2.trans x2⟩⟩
def tGt (K : PySem.W.Frag) (is : List Nat) (g : WG) : TG := fun v σ H Q => ∃ (c : Cd) (sd : SD) (os : List (Option Addr)) (d : PyData), c.K = K ∧ R c sd os σ H ∧ Dx K (hid (OO c os) H) v d ∧
  g d sd fun sd' => ∀ σ' os', R c sd' os' σ' H → But is σ σ' os os' → Q σ' H
def tGs (K : PySem.W.Frag) (is : List Nat) (g : WGs) : TGs := fun vs σ H Q => ∃ (c : Cd) (sd : SD) (os : List (Option Addr)) (ds : List PyData), c.K = K ∧ R c sd os σ H ∧ DxAll K (hid (OO c os) H) vs ds ∧
  g ds sd fun sd' => ∀ σ' os', R c sd' os' σ' H → But is σ σ' os os' → Q σ' H
structure EvG (X : Cx) (tg : Expr) (is : List Nat) (g : WG) : Prop where
  pg : PG X tg (tGt X.K is g)
  mo : ∀ d sd (Q Q' : SD → Prop), (∀ s, Q s → Q' s) → g d sd Q → g d sd Q'
structure EvGs (X : Cx) (tg : List Expr) (is : List Nat) (g : WGs) : Prop where
  pg : PGs X tg (tGs X.K is g)
  mo : ∀ d sd (Q Q' : SD → Prop), (∀ s, Q s → Q' s) → g d sd Q → g d sd Q'
theorem PG.weak {X : Cx} {e : Expr} {t t' : TG} (h : PG X e t) (k : ∀ v σ H Q, t' v σ H Q → t v σ H Q) : PG X e t' :=
  ⟨fun pins s σ H v u Q I r q => h.run pins s σ H v u Q I r (k v σ H Q q)⟩
theorem PGs.weak {X : Cx} {e : List Expr} {t t' : TGs} (h : PGs X e t) (k : ∀ v σ H Q, t' v σ H Q → t v σ H Q) : PGs X e t' :=
  ⟨fun pins s σ H v u Q I r q => h.run pins s σ H v u Q I r (k v σ H Q q)⟩
/-- more that stays -/
theorem R.more {c : Cd} {sd : SD} {os : List (Option Addr)} {σ : L2.St} {H : Hp} (r : R c sd os σ H) (t : List (V × PyData)) (h : ∀ p ∈ t, Dx c.K (hid (OO c os) H) p.1 p.2) : R { c with T := t ++ c.T } sd os σ H :=
  ⟨r.ext, r.src, r.sin, r.ocl, r.lend, r.leno, r.slot, r.uniq, fun p m => (List.mem_append.mp m).elim (h p) (r.tmp p), r.dis⟩
theorem R.less {c : Cd} {sd : SD} {os : List (Option Addr)} {σ : L2.St} {H : Hp} {t : List (V × PyData)} (r : R { c with T := t ++ c.T } sd os σ H) : R c sd os σ H :=
  ⟨r.ext, r.src, r.sin, r.ocl, r.lend, r.leno, r.slot, r.uniq, fun p m => r.tmp p (List.mem_append_right _ m), r.dis⟩
theorem zip_of {K : PySem.W.Frag} {H : Hp} : ∀ {vs : List V} {ds : List PyData}, DxAll K H vs ds → ∀ p ∈ vs.zip ds, Dx K H p.1 p.2
  | _, _, .nil, p, m => by cases m
  | _, _, .cons h t, p, m => by
    rw [List.zip_cons_cons] at m
    rcases List.mem_cons.mp m with rfl | m
    · exact h
    · exact zip_of t p m
theorem of_zip {K : PySem.W.Frag} {H : Hp} : ∀ {vs : List V} {ds : List PyData}, vs.length = ds.length → (∀ p ∈ vs.zip ds, Dx K H p.1 p.2) → DxAll K H vs ds
  | [], [], _, _ => .nil
  | v :: vs, d :: ds, e, h => .cons (h (v, d) (by rw [List.zip_cons_cons]; exact List.mem_cons_self)) (of_zip (by simpa using e) fun p m => h p (by rw [List.zip_cons_cons]; exact List.mem_cons_of_mem _ m))
section
variable {X : Cx} {e : Expr} {es : List Expr} {pos p apos cpos : Pos} {x : Str}
def gtName (i : Nat) : WG := fun d sd Q => Q (sd.set i (.va d))
theorem evg_name (i : Nat) (hN : X.N.Nodup) (hi : X.N[i]? = some x := by rfl) (hx : Loc X.env.scope x := by first | exact Or.inl rfl | exact Or.inr rfl)
    (hf : X.fn x = true ∨ X.env.scope.names.lookup x = some .local := by first | exact .inl rfl | exact .inr rfl) : EvG X (.Name x pos) [i] (gtName i) where
  pg := PG.weak (pg_name hN hi hx hf) fun v σ H Q ⟨c, sd, os, d, hk, r, dx, q⟩ => by
    obtain ⟨oa, r'⟩ := R.set (i := i) (z := .va d) r Ext.refl (show Dx c.K (hid (OO c os) H) v d by rw [hk]; exact dx)
    refine q _ _ r' ⟨by simp, fun j n => ?_⟩
    have nj : i ≠ j := fun e => n (by rw [e]; exact List.mem_cons_self)
    exact ⟨List.getElem?_set_ne nj, List.getElem?_set_ne nj⟩
  mo := fun d sd Q Q' k q => k _ q
def gtNil : WGs := fun ds sd Q => ds = [] ∧ Q sd
def gtCons (g : WG) (gs : WGs) : WGs := fun ds sd Q => match ds with
  | [] => False
  | d :: ds => g d sd fun sd' => gs ds sd' Q
theorem evgs_nil : EvGs X [] [] gtNil where
  pg := PGs.weak pgs_nil fun vs σ H Q ⟨c, sd, os, ds, hk, r, dx, e, q⟩ => by
    subst e
    cases dx
    exact ⟨rfl, q _ _ r But.refl⟩
  mo := fun d sd Q Q' k q => ⟨q.1, k _ q.2⟩
theorem evgs_cons {g : WG} {gs : WGs} {is js : List Nat} (h : EvG X e is g) (t : EvGs X es js gs)
    (hs : (assignEach (e :: es) X.env).map (·.2) = assign e X.env :: (assignEach es X.env).map (·.2) := by rfl) : EvGs X (e :: es) (is ++ js) (gtCons g gs) where
  pg := PGs.weak (pgs_cons h.pg t.pg hs) fun vs σ H Q ⟨c, sd, os, ds, hk, r, dx, q⟩ => by
    cases dx with
    | nil => exact q.elim
    | @cons v vs d ds d1 d2 =>
      have dd : ∀ p ∈ vs.zip ds, Dx c.K (hid (OO c os) H) p.1 p.2 := by rw [hk]; exact zip_of d2
      have lz := d2.len
      refine ⟨v, vs, rfl, { c with T := vs.zip ds ++ c.T }, sd, os, d, hk, r.more _ dd, d1, h.mo _ _ _ _ (fun sd' k σ' os' r' b => ?_) q⟩
      refine ⟨c, sd', os', ds, hk, r'.less, of_zip lz fun p m => ?_, t.mo _ _ _ _ (fun sd2 k2 σ2 os2 r2 b2 => k2 σ2 os2 r2 (b.trans b2)) k⟩
      have := r'.tmp p (List.mem_append_left _ m)
      rw [← hk]
      exact this
  mo := fun d sd Q Q' k q => by
    cases d with
    | nil => exact q.elim
    | cons d ds => exact h.mo _ _ _ _ (fun s z => t.mo _ _ _ _ k z) q
def gtTup (n : Nat) (gs : WGs) : WG := fun d sd Q => match d with
  | .tuple ds => ds.length = n ∧ gs ds sd Q
  | _ => False
theorem evg_tup {gs : WGs} {k n : Nat} {is : List Nat} (hc : X.calm = true) (h : EvGs X es is gs) (hn : (assignEach es X.env).length = n := by rfl) (hst : (assignEach es X.env).findIdx? (·.1) = none := by rfl) : EvG X (.Tuple es k pos) is (gtTup n gs) where
  pg := PG.weak (pg_tup hc h.pg hn hst) fun v σ H Q ⟨c, sd, os, d, hk, r, dx, q⟩ => by
    cases d with
    | tuple ds =>
      cases dx with
      | tup h1 h2 => exact ⟨_, _, rfl, SqT.same hid_sub h1, by rw [h2.len]; exact q.1, c, sd, os, ds, hk, r, h2, q.2⟩
    | _ => exact q.elim
  mo := fun d sd Q Q' k q => by
    cases d with
    | tuple ds => exact ⟨q.1, h.mo _ _ _ _ k q.2⟩
    | _ => exact q.elim
/-- a target = an expression -/
theorem evs_asg {tg : Expr} {we : WM} {g : WG} {is : List Nat} (h : EvM X e we) (hg : EvG X tg is g) (hs : swapsWithSole [tg] e pos.line X.env = pure false := by rfl) (hw : swappedStores [tg] e X.env = pure none := by rfl)
    (h1 : (assignEach [tg] X.env).map (·.2) = [assign tg X.env] := by rfl) : EvS X (.Assign [tg] e pos) (fun E sd => we sd fun z sd' => g z.dat sd' E.nx) where
  ps := PS.weak (ps_asg h.pe hg.pg hs hw h1) fun D σ H ⟨c, sd, os, E, hk, r, er, q⟩ => ⟨c, sd, os, hk, r, h.mo _ _ _ (fun z sd' kz v H1 H' os' r1 x rv =>
    ⟨c, sd', os', z.dat, hk, r1.grow x, RvR.cl rv fun b m => r1.there m, hg.mo _ _ _ _ (fun s y σ' os' r' _ => er.nx _ _ _ _ r' y) kz⟩) q⟩
  mo := fun E E' sd k1 _ _ _ q => h.mo _ _ _ (fun z s y => hg.mo _ _ _ _ k1 y) q
/-- a, b = x, y -/
theorem RvR.grow {K : PySem.W.Frag} {S O : List Addr} {H H1 H' : Hp} {v : V} {z : RV} (hs : ∀ a ∈ S, a ∈ O) (hn : ∀ a ∈ S, H a ≠ none) (x : Ext S H1 H') (h : RvR K O H H1 v z) : RvR K O H H' v z := by
  cases z with
  | va d => exact Dx.grow (S := S) hs x h
  | fr ds =>
    obtain ⟨p, xs, e1, e2, e3, e4⟩ := h
    exact ⟨p, xs, e1, e2, x.st p _ (fun z => hn p z e2) e3, DxAll.grow (S := S) (fun a m => List.mem_cons_of_mem _ (hs a m)) x e4⟩
  | fd es =>
    obtain ⟨p, xs, e1, e2, e3, e4⟩ := h
    exact ⟨p, xs, e1, e2, x.st p _ (fun z => hn p z e2) e3, DE.grow (S := S) (fun a m => List.mem_cons_of_mem _ (hs a m)) x e4⟩
/-- a new list is hidden -/
theorem R.hide {c : Cd} {sd : SD} {os : List (Option Addr)} {σ : L2.St} {H H' : Hp} {p : Addr} {o : HO} (r : R c sd os σ H) (x : Ext c.S H H') (hp : H p = none) (hp' : H' p = some o) (ho : IsOwn o) : R { c with Oc := p :: c.Oc } sd os σ H' := by
  have rr := r.grow x
  have nO : p ∉ OO c os := r.newOut hp
  have sub : Same (hid (OO c os) H) (hid (OO { c with Oc := p :: c.Oc } os) H') := hid_same (fun a o n e => x.st a o (fun z => n (r.sO a z)) e) fun a m => by
    rcases mem_OO.mp m with q | q
    · rcases List.mem_cons.mp q with rfl | q
      · exact .inr hp
      · exact .inl (mem_OO.mpr (.inl q))
    · exact .inl (mem_OO.mpr (.inr q))
  refine ⟨rr.ext, r.src, fun a m => List.mem_cons_of_mem _ (r.sin a m), fun a m => ?_, r.lend, r.leno, fun i s v oa h1 h2 h3 => ?_, r.uniq, fun q m => Dx.same sub _ _ (r.tmp q m), fun a m z => ?_⟩
  · rcases List.mem_cons.mp m with rfl | m
    · exact .inr ⟨o, hp', ho⟩
    · exact rr.ocl a m
  · have q := r.slot i s v oa h1 h2 h3
    cases s with
    | un => exact q
    | so => exact q
    | fn _ => exact q
    | va d => obtain ⟨q1, y, q2, q3⟩ := q; exact ⟨q1, y, q2, Dx.same sub _ _ q3⟩
    | ow ds =>
      obtain ⟨b, ys, q1, q2, q3, q4, q5⟩ := q
      subst q1
      exact ⟨b, ys, rfl, q2, x.st b _ (own_notS r (List.mem_of_getElem? h3)) q3, DxAll.same sub _ _ q4, q5⟩
    | od ds =>
      obtain ⟨b, ys, q1, q2, q3, q4, q5⟩ := q
      subst q1
      exact ⟨b, ys, rfl, q2, x.st b _ (own_notS r (List.mem_of_getElem? h3)) q3, DE.same sub q4, q5⟩
  · rcases List.mem_cons.mp z with rfl | z
    · exact nO (mem_OO.mpr (.inr m))
    · exact r.dis a m z
end
end DL

set_option Elab.async false
set_option linter.all false
set_option maxRecDepth 100000
set_option maxHeartbeats 4000000
/-! for, comprehensions -/
namespace DL
open PySem PySem.Spec PyProof.Rows L2
variable [Tb]
theorem R.adoptG {c : Cd} {sd : SD} {os : List (Option Addr)} {σ : L2.St} {H : Hp} {p : Addr} {sv : SV} (i : Nat) (r : R { c with Oc := p :: c.Oc } sd os σ H)
    (hn : p ∉ c.Oc) (hsn : ∀ a ∈ c.S, a ∈ c.Oc) (hd : ∀ O : List Addr, Same (hid (OO { c with Oc := p :: c.Oc } os) H) (hid O H) → SlotR c O H sv (some (.ref p)) (some p)) :
    ∃ os', R c (sd.set i sv) os' (σ.set i (some (.ref p))) H := by
  have np : some p ∉ os := fun m => r.dis p m List.mem_cons_self
  have sub : Same (hid (OO { c with Oc := p :: c.Oc } os) H) (hid (OO c (os.set i (some p))) H) := hid_same (fun _ _ _ h => h) fun a m => by
    rcases mem_OO.mp m with q | q
    · exact .inl (mem_OO.mpr (.inl (List.mem_cons_of_mem _ q)))
    · obtain ⟨j, hj, e⟩ := List.getElem_of_mem q
      rcases set_get (show (os.set i (some p))[j]? = some (some a) by rw [List.getElem?_eq_getElem hj, e]) with ⟨_, z⟩ | ⟨_, z⟩
      · cases z; exact .inl (mem_OO.mpr (.inl List.mem_cons_self))
      · exact .inl (mem_OO.mpr (.inr (List.mem_of_getElem? z)))
  refine ⟨os.set i (some p), r.ext, r.src, hsn, fun a m => r.ocl a (List.mem_cons_of_mem _ m), by simp [r.lend], by simp [r.leno], fun j s w oa h1 h2 h3 => ?_, fun j k a h1 h2 => ?_, fun q m => Dx.same sub _ _ (r.tmp q m), fun a m z => ?_⟩
  · rcases set_get h1 with ⟨ej, e1⟩ | ⟨nj, e1⟩
    · subst ej e1
      rcases set_get h2 with ⟨_, e2⟩ | ⟨n, _⟩
      · rcases set_get h3 with ⟨_, e3⟩ | ⟨n, _⟩
        · subst e2 e3
          exact hd _ sub
        · exact absurd rfl n
      · exact absurd rfl n
    · rcases set_get h2 with ⟨n, _⟩ | ⟨_, e2⟩
      · exact absurd n nj
      · rcases set_get h3 with ⟨n, _⟩ | ⟨_, e3⟩
        · exact absurd n nj
        · have q := r.slot j s w oa e1 e2 e3
          cases s with
          | un => exact q
          | so => exact q
          | fn _ => exact q
          | va d => obtain ⟨q1, y, q2, q3⟩ := q; exact ⟨q1, y, q2, Dx.same sub _ _ q3⟩
          | ow ds => obtain ⟨a, xs, q1, q2, q3, q4, q5⟩ := q; exact ⟨a, xs, q1, q2, q3, DxAll.same sub _ _ q4, q5⟩
          | od ds => obtain ⟨a, xs, q1, q2, q3, q4, q5⟩ := q; exact ⟨a, xs, q1, q2, q3, DE.same sub q4, q5⟩
  · rcases set_get h1 with ⟨ej, e1⟩ | ⟨n1, e1⟩
    · cases e1
      rcases set_get h2 with ⟨ek, e2⟩ | ⟨n2, e2⟩
      · rw [ej, ek]
      · exact absurd (List.mem_of_getElem? e2) np
    · rcases set_get h2 with ⟨ek, e2⟩ | ⟨n2, e2⟩
      · cases e2
        exact absurd (List.mem_of_getElem? e1) np
      · exact r.uniq j k a e1 e2
  · obtain ⟨j, hj, e⟩ := List.getElem_of_mem m
    rcases set_get (show (os.set i (some p))[j]? = some (some a) by rw [List.getElem?_eq_getElem hj, e]) with ⟨_, y⟩ | ⟨_, y⟩
    · cases y; exact hn z
    · exact r.dis a (List.mem_of_getElem? y) (List.mem_cons_of_mem _ z)
theorem R.adopt {c : Cd} {sd : SD} {os : List (Option Addr)} {σ : L2.St} {H : Hp} {p : Addr} {xs : List V} {ds : List PyData} (i : Nat) (r : R { c with Oc := p :: c.Oc } sd os σ H)
    (hp : H p = some (.lst xs)) (h0 : c.H0 p = none) (hn : p ∉ c.Oc) (hsn : ∀ a ∈ c.S, a ∈ c.Oc) (hd : DxAll c.K (hid (OO { c with Oc := p :: c.Oc } os) H) xs ds) :
    ∃ os', R c (sd.set i (.ow ds)) os' (σ.set i (some (.ref p))) H :=
  r.adoptG i hn hsn fun O sub => ⟨p, xs, rfl, rfl, hp, DxAll.same sub _ _ hd, h0⟩
theorem R.adoptD {c : Cd} {sd : SD} {os : List (Option Addr)} {σ : L2.St} {H : Hp} {p : Addr} {o : HO} {es : List (PyData × PyData)} (i : Nat) (r : R { c with Oc := p :: c.Oc } sd os σ H)
    (hp : H p = some o) (h0 : c.H0 p = none) (hn : p ∉ c.Oc) (hsn : ∀ a ∈ c.S, a ∈ c.Oc) (hd : DE c.K (hid (OO { c with Oc := p :: c.Oc } os) H) o es) :
    ∃ os', R c (sd.set i (.od es)) os' (σ.set i (some (.ref p))) H :=
  r.adoptG i hn hsn fun O sub => ⟨p, o, rfl, rfl, hp, DE.same sub hd, h0⟩
section
variable {X : Cx} {a b e : Expr} {es : List Expr} {pos p px py pt apos cpos : Pos} {x y : Str}
theorem evs_par {wa wb : WR} {kt k2 pt2} (i j : Nat) (ha : EvR X a wa) (hb : EvR X b wb) (hc : X.calm = true) (hN : X.N.Nodup) (hi : X.N[i]? = some x := by rfl) (hj : X.N[j]? = some y := by rfl) (hij : i ≠ j := by decide)
    (hx : X.env.scope.names.lookup x = some .local := by rfl) (hy : X.env.scope.names.lookup y = some .local := by rfl)
    (h1 : starEach [a, b] X.env = (false, eval a X.env) :: starEach [b] X.env := by rfl) (h2 : starEach [b] X.env = (false, eval b X.env) :: starEach [] X.env := by rfl)
    (hw : swappedStores [.Tuple [.Name x px, .Name y py] kt pt] (.Tuple [a, b] k2 pt2) X.env = pure (some [x, y]) := by rfl)
    (hs : swapsWithSole [.Tuple [.Name x px, .Name y py] kt pt] (.Tuple [a, b] k2 pt2) pos.line X.env = pure false := by rfl) :
    EvS X (.Assign [.Tuple [.Name x px, .Name y py] kt pt] (.Tuple [a, b] k2 pt2) pos) (fun E sd => wa sd fun z1 => wb sd fun z2 => E.nx ((sd.set i z1.sv).set j z2.sv)) where
  ps := PS.weak (ps_par hc hN hi hj hij hx hy (pa_cons ha.pe (pa_cons hb.pe pa_nil h2) h1) hw hs) fun D σ H ⟨c, sd, os, E, hk, r, er, q⟩ => by
    refine ⟨c, sd, os, hk, r, ha.mo _ _ _ (fun z1 kz v1 H1 x1 rv1 => ?_) q⟩
    cases z1 with
    | va d1 =>
      have rr := (r.grow x1).more [(v1, d1)] (fun q m => by
        rw [List.mem_singleton] at m
        subst m
        rw [hk]
        exact rv1)
      refine ⟨{ c with T := [(v1, d1)] ++ c.T }, sd, os, hk, rr, hb.mo _ _ _ (fun z2 kz v2 H2 x2 rv2 => ⟨v1, v2, rfl, ?_⟩) kz⟩
      obtain ⟨os2, r2⟩ := R.set (i := j) rr x2 (show RvR c.K (OO c os) H1 H2 v2 z2 by rw [hk]; exact rv2)
      have d1' := r2.tmp (v1, d1) (List.mem_append_left _ List.mem_cons_self)
      obtain ⟨os3, r3⟩ := R.set (i := i) (z := .va d1) r2.less Ext.refl d1'
      have r4 : R c ((sd.set j z2.sv).set i (.va d1)) _ ((σ.set j (some v2)).set i (some v1)) H2 := r3
      rw [List.set_comm (l := sd) _ _ (Ne.symm hij), List.set_comm (l := σ) _ _ (Ne.symm hij)] at r4
      exact er.nx _ _ _ _ r4 kz
    | fr d1 =>
      obtain ⟨p1, xs1, rfl, e2, e3, e4⟩ := rv1
      have np : p1 ∉ OO c os := r.newOut e2
      have h0 : c.H0 p1 = none := by
        cases q : c.H0 p1 with
        | none => rfl
        | some o =>
          by_cases z : p1 ∈ c.S
          · exact absurd e2 (r.srcNow.there p1 z)
          · rw [r.ext.st p1 o z q] at e2; cases e2
      have lz := e4.len
      have rr := (r.hide x1 e2 e3 own_lst).more (xs1.zip d1) (fun q m => by
        have := zip_of e4 q m
        rw [← hk] at this
        exact this)
      refine ⟨{ c with Oc := p1 :: c.Oc, T := xs1.zip d1 ++ c.T }, sd, os, hk, rr, hb.mo _ _ _ (fun z2 kz v2 H2 x2 rv2 => ⟨_, v2, rfl, ?_⟩) kz⟩
      obtain ⟨os2, r2⟩ := R.set (i := j) rr x2 (show RvR c.K _ H1 H2 v2 z2 by rw [hk]; exact rv2)
      have hp2 : H2 p1 = some (.lst xs1) := x2.st p1 _ (fun z => np (r.sO p1 z)) e3
      have dz := of_zip (K := c.K) (H := hid (OO { c with Oc := p1 :: c.Oc } (os.set j os2)) H2) lz fun q m => r2.tmp q (List.mem_append_left _ m)
      obtain ⟨os3, r3⟩ := R.adopt (c := c) i r2.less hp2 h0 (fun z => np (mem_OO.mpr (.inl z))) r.sin dz
      rw [List.set_comm (l := sd) _ _ (Ne.symm hij), List.set_comm (l := σ) _ _ (Ne.symm hij)] at r3
      exact er.nx _ _ _ _ r3 kz
    | fd d1 =>
      obtain ⟨p1, o1, rfl, e2, e3, xs1, eo, e4⟩ := rv1
      have np : p1 ∉ OO c os := r.newOut e2
      have h0 : c.H0 p1 = none := by
        cases q : c.H0 p1 with
        | none => rfl
        | some o =>
          by_cases z : p1 ∈ c.S
          · exact absurd e2 (r.srcNow.there p1 z)
          · rw [r.ext.st p1 o z q] at e2; cases e2
      have lz := e4.len
      have rr := (r.hide x1 e2 e3 eo.own).more (xs1.zip (d1.map (·.2))) (fun q m => by
        have := zip_of e4 q m
        rw [← hk] at this
        exact this)
      refine ⟨{ c with Oc := p1 :: c.Oc, T := xs1.zip (d1.map (·.2)) ++ c.T }, sd, os, hk, rr, hb.mo _ _ _ (fun z2 kz v2 H2 x2 rv2 => ⟨_, v2, rfl, ?_⟩) kz⟩
      obtain ⟨os2, r2⟩ := R.set (i := j) rr x2 (show RvR c.K _ H1 H2 v2 z2 by rw [hk]; exact rv2)
      have hp2 : H2 p1 = some o1 := x2.st p1 _ (fun z => np (r.sO p1 z)) e3
      have dz := of_zip (K := c.K) (H := hid (OO { c with Oc := p1 :: c.Oc } (os.set j os2)) H2) lz fun q m => r2.tmp q (List.mem_append_left _ m)
      obtain ⟨os3, r3⟩ := R.adoptD (c := c) i r2.less hp2 h0 (fun z => np (mem_OO.mpr (.inl z))) r.sin ⟨xs1, eo, dz⟩
      rw [List.set_comm (l := sd) _ _ (Ne.symm hij), List.set_comm (l := σ) _ _ (Ne.symm hij)] at r3
      exact er.nx _ _ _ _ r3 kz
  mo := fun E E' sd k1 _ _ _ q => ha.mo _ _ _ (fun z y => hb.mo _ _ _ (fun z2 y => k1 _ y) y) q
/-! ### what is walked -/
/-- e, a list or a tuple -/
theorem pi_seq {tg l : Expr} {tl : TE} (hl : PE X l tl) : PI X tg l (fun σ H R' => tl σ H fun x H1 => (∃ a xs, x = .ref a ∧ SqL X.K H1 a xs ∧ R' (Itl X.K a) H1) ∨ ∃ a xs, x = .ref a ∧ SqT X.K H1 a xs ∧ R' (Itt X.K a) H1) := by
  constructor
  intro pins s σ H R' I h
  apply thn (hl.run pins s σ H _ I h)
  rintro v s1 ⟨x, H1, I1, r1, q1⟩
  have new : ∀ b ∈ [s1.heap.objs.size], FpOk X pins H1 b := by
    intro b hb
    rw [List.mem_singleton] at hb
    subst hb
    exact I1.fpOk (Nat.le_refl _) (I1.hok.fresh (Nat.le_refl _))
  rcases q1 with ⟨a, xs, rfl, hq, q⟩ | ⟨a, xs, rfl, hq, q⟩
  · cases r1
    obtain ⟨its, rv, pl, hz⟩ := I1.list hq
    apply wpAny_pyIter_list pl.isList
    exact ⟨_, [s1.heap.objs.size], _, _, H1, rfl, I1.kept (t' := s1.toks) fun b o e => Heap.get?_push_of_some _ e,
      turn_list a _, ⟨_, Heap.get?_push_size _ rfl, rfl, rfl⟩, new, q⟩
  · cases r1
    obtain ⟨its, rv, pl, hz⟩ := I1.tuple hq
    apply wpAny_pyIter_tuple (show s1.heap.IsTuple a its.toArray from pl)
    exact ⟨_, [s1.heap.objs.size], _, _, H1, rfl, I1.kept (t' := s1.toks) fun b o e => Heap.get?_push_of_some _ e,
      turn_tuple a _, ⟨_, Heap.get?_push_size _ rfl, rfl, rfl⟩, new, q⟩
def ItOk (K : PySem.W.Frag) (J : It) (ds : List PyData) (O : List Addr) (H : Hp) : Prop :=
  (∀ i d, ds[i]? = some d → J.go i H ∧ ∀ x H3, J.yld i H x H3 → H3 = H ∧ Dx K (hid O H) x d) ∧ ∀ i, ds.length ≤ i → J.stop i H
theorem it_l {K : PySem.W.Frag} {O : List Addr} {H : Hp} {a : Addr} {xs : List V} {ds : List PyData} (h : H a = some (.lst xs)) (hd : DxAll K (hid O H) xs ds) : ItOk K (Itl K a) ds O H := by
  refine ⟨fun i d e => ?_, fun i l => ⟨xs, .inl (.inl h), by rw [hd.len]; exact l⟩⟩
  obtain ⟨v, h1, h2⟩ := hd.get e
  refine ⟨⟨xs, v, .inl (.inl h), h1⟩, fun x H3 y => ⟨y.1, ?_⟩⟩
  have := y.2 xs (.inl (.inl h))
  rw [h1] at this
  cases this
  exact h2
theorem it_t {K : PySem.W.Frag} {O : List Addr} {H : Hp} {a : Addr} {xs : List V} {ds : List PyData} (h : SqT K H a xs) (hd : DxAll K (hid O H) xs ds) : ItOk K (Itt K a) ds O H := by
  refine ⟨fun i d e => ?_, fun i l => ⟨xs, h, by rw [hd.len]; exact l⟩⟩
  obtain ⟨v, h1, h2⟩ := hd.get e
  refine ⟨⟨xs, v, h, h1⟩, fun x H3 y => ⟨y.1, ?_⟩⟩
  have := y.2 xs h
  rw [h1] at this
  cases this
  exact h2
def rangeD (lo : Int) (n : Nat) : List PyData := (List.range n).map fun (k : Nat) => PyData.int (lo + k)
theorem it_r {K : PySem.W.Frag} {O : List Addr} {H : Hp} {lo : Int} {n : Nat} : ItOk K (Itr lo n) (rangeD lo n) O H := by
  refine ⟨fun i d e => ?_, fun i l => ?_⟩
  · unfold rangeD at e
    rw [List.getElem?_map] at e
    cases q : (List.range n)[i]? with
    | none => rw [q] at e; cases e
    | some k =>
      rw [q] at e
      obtain ⟨l, e2⟩ := List.getElem?_eq_some_iff.mp q
      rw [List.getElem_range] at e2
      rw [List.length_range] at l
      subst e2
      cases e
      exact ⟨l, fun x H3 y => ⟨y.1, by rw [y.2]; exact .int _⟩⟩
  · show n ≤ i
    unfold rangeD at l
    rw [List.length_map, List.length_range] at l
    exact l
/-! ### for -/
def forW (g : WG) (wb : WS) (E : ED) : List PyData → SD → Prop
  | [], sd => E.nx sd
  | d :: ds, sd => g d sd fun sd1 => wb (loopE E (forW g wb E ds)) sd1
theorem forW_mo {tg : Expr} {body : List Stmt} {g : WG} {wb : WS} {is : List Nat} (hg : EvG X tg is g) (hb : EvB X body wb) {E E' : ED} (h1 : ∀ sd, E.nx sd → E'.nx sd) (h2 : ∀ z, E.rt z → E'.rt z) : ∀ ds sd, forW g wb E ds sd → forW g wb E' ds sd
  | [], sd, q => h1 _ q
  | d :: ds, sd, q => hg.mo _ _ _ _ (fun s y => hb.mo (loopE E (forW g wb E ds)) (loopE E' (forW g wb E' ds)) s (forW_mo hg hb h1 h2 ds) h2 h1 (forW_mo hg hb h1 h2 ds) y) q
theorem for_run {tg : Expr} {body : List Stmt} {g : WG} {wb : WS} {is : List Nat} (hg : EvG X tg is g) (hb : EvB X body wb) {c : Cd} {sd : SD} {os : List (Option Addr)} {σ : L2.St} {H : Hp} {D : Ends} {E : ED} {J : It} {ds : List PyData} (t : List (V × PyData))
    (hk : c.K = X.K) (r : R c sd os σ H) (er : ER c E D) (ht : ∀ p ∈ t, Dx c.K (hid (OO c os) H) p.1 p.2) (hJ : ∀ O H, (∀ p ∈ t, Dx c.K (hid O H) p.1 p.2) → ItOk c.K J ds O H) (q : forW g wb E ds sd) :
    ∃ W : Nat → Nat → L2.St → Hp → Prop, (∃ m, W 0 m σ H) ∧ ∀ i m σ H, W i m σ H →
      (J.stop i H ∧ D.nx σ H) ∨ (J.go i H ∧ ∃ N : L2.St → Hp → Prop, (∀ σ' H', N σ' H' → ∃ m', m' < m ∧ W (i + 1) m' σ' H') ∧ ∀ x H', J.yld i H x H' → tGt X.K is g x σ H' fun σ2 H2 => tSt X.K wb { D with nx := N, ct := N, bk := D.nx } σ2 H2) := by
  refine ⟨fun i m σ H => ∃ sd os, R { c with T := t ++ c.T } sd os σ H ∧ forW g wb E (ds.drop i) sd ∧ m = ds.length - i ∧ i ≤ ds.length, ⟨_, sd, os, r.more t ht, q, rfl, Nat.zero_le _⟩, ?_⟩
  rintro i m σ H ⟨sd, os, r, q, rfl, hi⟩
  have ok := hJ (OO c os) H fun p m => r.tmp p (List.mem_append_left _ m)
  by_cases hlt : i < ds.length
  · have eg := List.getElem?_eq_getElem hlt
    obtain ⟨go, yl⟩ := ok.1 i _ eg
    rw [List.drop_eq_getElem_cons hlt] at q
    refine .inr ⟨go, fun σ' H' => ∃ sd os, R { c with T := t ++ c.T } sd os σ' H' ∧ forW g wb E (ds.drop (i + 1)) sd, fun σ' H' ⟨sd, os, r, q⟩ => ⟨ds.length - (i + 1), by omega, sd, os, r, q, rfl, hlt⟩, fun x H' y => ?_⟩
    obtain ⟨rfl, dx⟩ := yl x H' y
    refine ⟨{ c with T := t ++ c.T }, sd, os, ds[i], hk, r, by rw [← hk]; exact dx, hg.mo _ _ _ _ (fun s k σ' os' r' _ => ?_) q⟩
    refine ⟨{ c with T := t ++ c.T }, s, os', loopE E (forW g wb E (ds.drop (i + 1))), hk, r', ⟨fun sd os σ H r k => ⟨sd, os, r, k⟩, fun sd os σ H r k => er.nx _ _ _ _ r.less k, fun sd os σ H r k => ⟨sd, os, r, k⟩, er.rt⟩, k⟩
  · have e : i = ds.length := by omega
    subst e
    rw [List.drop_length] at q
    exact .inl ⟨ok.2 _ (Nat.le_refl _), er.nx _ _ _ _ r.less q⟩
end
end DL

set_option Elab.async false
set_option linter.all false
set_option maxRecDepth 100000
set_option maxHeartbeats 4000000
/-! for and comprehensions, as statements and expressions; a def by its body -/
namespace DL
open PySem PySem.Spec PyProof.Rows L2
variable [Tb]
section
variable {X : Cx} {a b e tg iter elt : Expr} {es : List Expr} {body : List Stmt} {pos p : Pos} {x y : Str} {g : WG} {wb : WS} {is : List Nat}
theorem evs_for {we : WM} (h : EvM X iter we) (hg : EvG X tg is g) (hb : EvB X body wb) (hc : X.calm = true) (hp : PassesOwn (model X.prog X.w) X.A X.env X.xe := by exact PassesOwn.never)
    (hs : ∀ x, foldedSetIterable iter X.env x = pure x := by intro _; rfl) : EvS X (.For tg iter body [] pos) (fun E sd => we sd fun z sd' => dItems z.dat fun ds => forW g wb E ds sd') where
  ps := PS.weak (ps_for hp hc (pi_seq h.pe) hg.pg hb.ps hs) fun D σ H ⟨c, sd, os, E, hk, r, er, q⟩ => by
    refine ⟨c, sd, os, hk, r, h.mo _ _ _ (fun z sd' kz v H1 H' os' r1 x1 rv => ?_) q⟩
    have r2 := r1.grow x1
    have dx : Dx c.K (hid (OO c os') H') v z.dat := by rw [hk]; exact RvR.cl rv fun b m => r1.there m
    have ht : ∀ p ∈ [(v, z.dat)], Dx c.K (hid (OO c os') H') p.1 p.2 := fun p m => by
      rw [List.mem_singleton] at m
      subst m
      exact dx
    cases ez : z.dat with
    | list ds =>
      rw [ez] at dx kz
      cases dx with
      | lst h1 h2 =>
        refine .inl ⟨_, _, rfl, .inl (.inl (hid_some h1).2), for_run hg hb _ hk r2 er ht (fun O H ok => ?_) kz⟩
        have := ok _ List.mem_cons_self
        rw [ez] at this
        cases this with
        | lst g1 g2 => rw [hk] at g2 ⊢; exact it_l (hid_some g1).2 g2
    | tuple ds =>
      rw [ez] at dx kz
      cases dx with
      | tup h1 h2 =>
        refine .inr ⟨_, _, rfl, SqT.same hid_sub (by rw [← hk]; exact h1), for_run hg hb _ hk r2 er ht (fun O H ok => ?_) kz⟩
        have := ok _ List.mem_cons_self
        rw [ez] at this
        cases this with
        | tup g1 g2 => rw [hk] at g1 g2 ⊢; exact it_t (SqT.same hid_sub g1) g2
    | none => rw [ez] at kz; exact kz.elim
    | bool _ => rw [ez] at kz; exact kz.elim
    | int _ => rw [ez] at kz; exact kz.elim
    | str _ => rw [ez] at kz; exact kz.elim
    | dict _ => rw [ez] at kz; exact kz.elim
  mo := fun E E' sd h1 h2 _ _ q => h.mo _ _ _ (fun z s y => dItems_mo (fun ds y => forW_mo hg hb h1 h2 ds _ y) y) q
def dInt1 (d : PyData) (k : Int → Prop) : Prop := match d with
  | .int n => (-(2 ^ 62) ≤ n ∧ n < 2 ^ 62) ∧ k n
  | _ => False
theorem dInt1_mo {d : PyData} {k k' : Int → Prop} (h : ∀ n, k n → k' n) (q : dInt1 d k) : dInt1 d k' := by
  cases d with
  | int n => exact ⟨q.1, h _ q.2⟩
  | _ => exact q.elim
theorem dInt1_get {d : PyData} {k : Int → Prop} (q : dInt1 d k) : ∃ n, d = .int n ∧ (-(2 ^ 62) ≤ n ∧ n < 2 ^ 62) ∧ k n := by
  cases d with
  | int n => exact ⟨n, rfl, q⟩
  | _ => exact q.elim
/-- for .. in range(a) -/
theorem evs_forR {we : WD} (h : Ev .sh X a we) (hg : EvG X tg is g) (hb : EvB X body wb) (hc : X.calm = true) (hm : X.mg "range" = none) (hgl : Gl X "range" := by rfl) (hp : PassesOwn (model X.prog X.w) X.A X.env X.xe := by exact PassesOwn.never)
    (h1 : starEach [a] X.env = (false, eval a X.env) :: starEach [] X.env := by rfl) (h2 : starEach [a] X.env = [(false, eval a X.env)] := by rfl)
    (hs : ∀ x, foldedSetIterable (.Call (.Name "range" p) [a] [] pos) X.env x = pure x := by intro _; rfl) {pos2 : Pos} :
    EvS X (.For tg (.Call (.Name "range" p) [a] [] pos) body [] pos2) (fun E sd => we sd fun d => dInt1 d fun n => forW g wb E (rangeD 0 n.toNat) sd) where
  ps := PS.weak (ps_for hp hc (pi_range1 hgl hm (pa_cons h.pe pa_nil h1) h2) hg.pg hb.ps hs) fun D σ H ⟨c, sd, os, E, hk, r, er, q⟩ =>
    ⟨c, sd, os, hk, r, h.mo _ _ _ (fun d kz v H1 x1 dm => by
      obtain ⟨n, rfl, ⟨q1, q2⟩, q3⟩ := dInt1_get kz
      exact ⟨n, by rw [shInt dm], q1, q2, for_run hg hb [] hk (r.grow x1) er (fun p m => by cases m) (fun O H _ => by rw [hk]; exact it_r) q3⟩) q⟩
  mo := fun E E' sd k1 k2 _ _ q => h.mo _ _ _ (fun d y => dInt1_mo (fun n y => forW_mo hg hb k1 k2 _ _ y) y) q
theorem evs_forR2 {wa we : WD} (h0 : Ev .sh X b wa) (h : Ev .sh X a we) (hg : EvG X tg is g) (hb : EvB X body wb) (hc : X.calm = true) (hm : X.mg "range" = none) (hgl : Gl X "range" := by rfl) (hp : PassesOwn (model X.prog X.w) X.A X.env X.xe := by exact PassesOwn.never)
    (h1 : starEach [b, a] X.env = (false, eval b X.env) :: starEach [a] X.env := by rfl) (h2 : starEach [a] X.env = (false, eval a X.env) :: starEach [] X.env := by rfl)
    (h3 : starEach [b, a] X.env = [(false, eval b X.env), (false, eval a X.env)] := by rfl) (h4 : starEach [a] X.env = [(false, eval a X.env)] := by rfl)
    (hs : ∀ x, foldedSetIterable (.Call (.Name "range" p) [b, a] [] pos) X.env x = pure x := by intro _; rfl) {pos2 : Pos} :
    EvS X (.For tg (.Call (.Name "range" p) [b, a] [] pos) body [] pos2) (fun E sd => wa sd fun d0 => we sd fun d => dInt1 d0 fun m => dInt1 d fun n => forW g wb E (rangeD m (n - m).toNat) sd) where
  ps := PS.weak (ps_for hp hc (pi_range2 hgl hm (pa_cons h0.pe (pa_cons h.pe pa_nil h2) h1) h3 h4) hg.pg hb.ps hs) fun D σ H ⟨c, sd, os, E, hk, r, er, q⟩ =>
    ⟨c, sd, os, hk, r, h0.mo _ _ _ (fun d0 k0 v0 H0 x0 dm0 => ⟨c, sd, os, hk, r.grow x0, h.mo _ _ _ (fun d kz v H1 x1 dm => by
      obtain ⟨m, rfl, ⟨p1, p2⟩, p3⟩ := dInt1_get kz
      obtain ⟨n, rfl, ⟨q1, q2⟩, q3⟩ := dInt1_get p3
      exact ⟨m, n, by rw [shInt dm, shInt dm0], ⟨p1, p2, q1, q2⟩, for_run hg hb [] hk (r.grow (x0.trans x1)) er (fun p m => by cases m) (fun O H _ => by rw [hk]; exact it_r) q3⟩) k0⟩) q⟩
  mo := fun E E' sd k1 k2 _ _ q => h0.mo _ _ _ (fun d0 y0 => h.mo _ _ _ (fun d y => dInt1_mo (fun m y => dInt1_mo (fun n y => forW_mo hg hb k1 k2 _ _ y) y) y) y0) q

/-! ### comprehensions -/
def wipeD (sd : SD) : List Nat → SD
  | [] => sd
  | v :: vs => (wipeD sd vs).set v .un
def noOw : SV → Bool
  | .ow _ => false
  | .od _ => false
  | _ => true
theorem noOw_own {s : SV} (h : s.isOwn = true) : noOw s = false := by
  cases s <;> first | rfl | cases h
theorem R.wipe {c : Cd} {sd : SD} {os : List (Option Addr)} {σ : L2.St} {H : Hp} (r : R c sd os σ H) : ∀ vs : List Nat, (∀ i ∈ vs, noOw (getS sd i) = true) → R c (wipeD sd vs) os (wipe σ vs) H
  | [], _ => r
  | v :: vs, h => by
    have q := R.wipe r vs fun i m => h i (List.mem_cons_of_mem _ m)
    refine ⟨q.ext, q.src, q.sin, q.ocl, by simp [wipeD, L2.wipe, q.lend], by simp [L2.wipe, q.leno], fun j s w oa h1 h2 h3 => ?_, q.uniq, q.tmp, q.dis⟩
    unfold wipeD at h1
    unfold L2.wipe at h2
    rcases set_get h1 with ⟨ej, e1⟩ | ⟨nj, e1⟩
    · subst ej e1
      show oa = none
      have l3 : j < os.length := (List.getElem?_eq_some_iff.mp h3).1
      have l1 : j < sd.length := by rw [r.lend, ← r.leno]; exact l3
      have l2 : j < σ.length := by rw [← r.leno]; exact l3
      have := r.slot j sd[j] σ[j] oa (List.getElem?_eq_getElem l1) (List.getElem?_eq_getElem l2) h3
      have no := h j List.mem_cons_self
      have eg : getS sd j = sd[j] := by
        clear this no h1 h2 h3 q h l3 l2 r
        induction sd generalizing j with
        | nil => simp at l1
        | cons s r ih =>
          cases j with
          | zero => rfl
          | succ k => exact ih k (by simpa using l1)
      rw [eg] at no
      cases es : sd[j] with
      | un => rw [es] at this; exact this
      | so => rw [es] at this; exact this.1
      | fn _ => rw [es] at this; exact this.1
      | od _ => rw [es] at no; cases no
      | va d => rw [es] at this; exact this.1
      | ow ds => rw [es] at no; cases no
    · rcases set_get h2 with ⟨n, _⟩ | ⟨_, e2⟩
      · exact absurd n nj
      · exact q.slot j s w oa e1 e2 h3
theorem wipe_but {σ σ' : L2.St} {os os' : List (Option Addr)} {is vs : List Nat} (b : But is σ σ' os os') (h : ∀ i ∈ is, i ∈ vs) : wipe σ' vs = wipe σ vs := by
  have at_ : ∀ (τ : L2.St) (ws : List Nat) (j : Nat), (wipe τ ws)[j]? = if j ∈ ws then (if j < τ.length then some none else none) else τ[j]? := by
    intro τ ws j
    induction ws with
    | nil => simp [L2.wipe]
    | cons w ws ih =>
      unfold L2.wipe
      by_cases e : w = j
      · subst e
        rw [if_pos List.mem_cons_self, List.getElem?_set]
        simp [L2.wipe_length]
      · rw [List.getElem?_set_ne e, ih]
        have : j ∈ w :: ws ↔ j ∈ ws := by
          rw [List.mem_cons]
          exact ⟨fun z => z.resolve_left fun q => e q.symm, .inr⟩
        simp only [this]
  apply List.ext_getElem?
  intro j
  rw [at_, at_, b.1]
  by_cases m : j ∈ vs
  · rw [if_pos m, if_pos m]
  · rw [if_neg m, if_neg m]
    exact (b.2 j fun z => m (h j z)).1
def lcW (g : WG) (t : WB) (we : WR) (sd : SD) : List PyData → (List PyData → Prop) → Prop
  | [], Q => Q []
  | d :: ds, Q => g d sd fun sd2 => t sd2 fun b => if b = true then we sd2 (fun z => lcW g t we sd ds fun out => Q (z.dat :: out)) else lcW g t we sd ds Q
/-- the tests of a comprehension -/
structure EvI (X : Cx) (ifs : List Expr) (w : WB) : Prop where
  pt : PTs X ifs (tTe X.K w)
  mo : ∀ sd (Q Q' : Bool → Prop), (∀ r, Q r → Q' r) → w sd Q → w sd Q'
theorem PTs.weak {X : Cx} {e : List Expr} {t t' : TT} (h : PTs X e t) (k : ∀ σ H Q, t' σ H Q → t σ H Q) : PTs X e t' :=
  ⟨fun pins s σ H Q I q => h.run pins s σ H Q I (k σ H Q q)⟩
theorem evi_nil : EvI X [] (fun _ Q => Q true) :=
  ⟨PTs.weak pts_nil fun σ H Q ⟨c, sd, os, hk, r, q⟩ => q H Ext.refl, fun _ _ _ k q => k _ q⟩
theorem evi_one {w : WB} (h : EvT X e w) : EvI X [e] w := ⟨pts_one h.pt, h.mo⟩
end
end DL

set_option Elab.async false
set_option linter.all false
set_option maxRecDepth 100000
set_option maxHeartbeats 4000000
/-! comprehensions; a def by its body -/
namespace DL
open PySem PySem.Spec PyProof.Rows L2
variable [Tb]
theorem getS_of : ∀ {sd : SD} {i : Nat} {s : SV}, sd[i]? = some s → getS sd i = s
  | [], _, _, h => by simp at h
  | t :: _, 0, s, h => by have e : t = s := by simpa using h
                          exact e
  | _ :: r, k + 1, s, h => getS_of (sd := r) (i := k) (by simpa using h)
theorem wipe_at (τ : L2.St) (j : Nat) : ∀ ws : List Nat, (wipe τ ws)[j]? = if j ∈ ws then (if j < τ.length then some none else none) else τ[j]?
  | [] => by simp [L2.wipe]
  | w :: ws => by
    unfold L2.wipe
    by_cases e : w = j
    · subst e
      rw [if_pos List.mem_cons_self, List.getElem?_set]
      simp [L2.wipe_length]
    · rw [List.getElem?_set_ne e, wipe_at τ j ws]
      have : j ∈ w :: ws ↔ j ∈ ws := by
        rw [List.mem_cons]
        exact ⟨fun z => z.resolve_left fun q => e q.symm, .inr⟩
      simp only [this]
theorem wipe_idem (σ : L2.St) (vs : List Nat) : wipe (wipe σ vs) vs = wipe σ vs := by
  apply List.ext_getElem?
  intro j
  rw [wipe_at, wipe_at, L2.wipe_length]
  by_cases m : j ∈ vs
  · rw [if_pos m, if_pos m]
  · rw [if_neg m, if_neg m]
section
variable {X : Cx} {a e tg iter elt : Expr} {ifs : List Expr} {pos p : Pos} {g : WG} {t : WB} {we : WR} {is vs : List Nat}
theorem lcW_mo (hg : ∀ d sd (Q Q' : SD → Prop), (∀ s, Q s → Q' s) → g d sd Q → g d sd Q') (ht : ∀ sd (Q Q' : Bool → Prop), (∀ r, Q r → Q' r) → t sd Q → t sd Q') (he : ∀ sd (Q Q' : RV → Prop), (∀ r, Q r → Q' r) → we sd Q → we sd Q') (sd : SD) :
    ∀ (ds : List PyData) (Q Q' : List PyData → Prop), (∀ r, Q r → Q' r) → lcW g t we sd ds Q → lcW g t we sd ds Q'
  | [], Q, Q', k, q => k _ q
  | d :: ds, Q, Q', k, q => hg _ _ _ _ (fun s y => ht _ _ _ (fun b y => by
      cases b with
      | true => exact he _ _ _ (fun z y => lcW_mo hg ht he sd ds _ _ (fun r y => k _ y) y) y
      | false => exact lcW_mo hg ht he sd ds _ _ k y) y) q
theorem lc_run {c : Cd} {sd : SD} {os : List (Option Addr)} {σ : L2.St} {H1 : Hp} {Q : VK} {J : It} {ds : List PyData} {D : Addr}
    (hg : ∀ d sd (Q Q' : SD → Prop), (∀ s, Q s → Q' s) → g d sd Q → g d sd Q') (ht : ∀ sd (Q Q' : Bool → Prop), (∀ r, Q r → Q' r) → t sd Q → t sd Q') (he : ∀ sd (Q Q' : RV → Prop), (∀ r, Q r → Q' r) → we sd Q → we sd Q')
    (hk : c.K = X.K) (r : R c sd os σ H1) (hD : H1 D = none) (hv : ∀ i ∈ vs, noOw (getS sd i) = true) (hsub : ∀ i ∈ is, i ∈ vs)
    (hJ : ∀ H2, Ext c.S H1 H2 → ItOk c.K J ds (OO { c with Oc := D :: c.Oc } os) H2) (hz : ds.length ≤ sizeLine)
    (q : lcW g t we (wipeD sd vs) ds fun out => ∀ v H', Ext c.S H1 H' → RvR X.K (OO c os) H1 H' v (.fr out) → Q v H') :
    ∃ W : Nat → Nat → Hp → Prop, (∃ m, W 0 m (upd H1 D (.lst []))) ∧ ∀ i m H, W i m H →
      (J.stop i H ∧ Q (.ref D) H) ∨ (J.go i H ∧ ∃ Nx : Hp → Prop, (∀ H', Nx H' → ∃ m', m' < m ∧ W (i + 1) m' H') ∧ ∀ x H', J.yld i H x H' →
        tGt X.K is g x (wipe σ vs) H' fun σ2 H2 => wipe σ2 vs = wipe σ vs ∧ tTe X.K t σ2 H2 fun b H3 =>
          if b = true then tR X.K we σ2 H3 fun y H4 => ∃ acc, H4 D = some (.lst acc) ∧ acc.length < sizeLine ∧ Nx (upd H4 D (.lst (acc ++ [y]))) else Nx H3) := by
  have nS : D ∉ c.S := fun z => r.srcNow.there D z hD
  have h0 : c.H0 D = none := by
    cases q : c.H0 D with
    | none => rfl
    | some o => rw [r.ext.st D o nS q] at hD; cases hD
  have hos : ∀ i ∈ vs, ∀ b, os[i]? ≠ some (some b) := fun i m b e => by
    obtain ⟨i', s0, o0, g1, g1', g2, g3, _⟩ := r.ownAt (List.mem_of_getElem? e)
    have ei := r.uniq _ _ _ g3 e
    subst ei
    have := hv i' m
    rw [getS_of g1, noOw_own g1'] at this
    cases this
  have rD := (r.hide (o := .lst []) (H' := upd H1 D (.lst [])) (Ext.of (same_new hD)) hD upd_same own_lst).wipe vs hv
  refine ⟨fun i m H => ∃ acc out, H D = some (.lst acc) ∧ DxAll c.K (hid (OO { c with Oc := D :: c.Oc } os) H) acc out ∧ R { c with Oc := D :: c.Oc } (wipeD sd vs) os (wipe σ vs) H ∧ Ext c.S H1 H ∧
      lcW g t we (wipeD sd vs) (ds.drop i) (fun rest => ∀ v H', Ext c.S H1 H' → RvR X.K (OO c os) H1 H' v (.fr (out ++ rest)) → Q v H') ∧ m = ds.length - i ∧ i ≤ ds.length ∧ acc.length ≤ i,
    ⟨_, [], [], upd_same, .nil, rD, Ext.of (same_new hD), q, rfl, Nat.zero_le _, Nat.le_refl _⟩, ?_⟩
  rintro i m H ⟨acc, out, hDa, dacc, rw', x1, q, rfl, hi, hl⟩
  have ok := hJ H x1
  by_cases hlt : i < ds.length
  · have eg := List.getElem?_eq_getElem hlt
    obtain ⟨go, yl⟩ := ok.1 i _ eg
    rw [List.drop_eq_getElem_cons hlt] at q
    refine .inr ⟨go, fun H' => ∃ acc out, H' D = some (.lst acc) ∧ DxAll c.K (hid (OO { c with Oc := D :: c.Oc } os) H') acc out ∧ R { c with Oc := D :: c.Oc } (wipeD sd vs) os (wipe σ vs) H' ∧ Ext c.S H1 H' ∧
      lcW g t we (wipeD sd vs) (ds.drop (i + 1)) (fun rest => ∀ v H', Ext c.S H1 H' → RvR X.K (OO c os) H1 H' v (.fr (out ++ rest)) → Q v H') ∧ acc.length ≤ i + 1,
      fun H' ⟨acc, out, e1, e2, e3, e4, e5, e6⟩ => ⟨ds.length - (i + 1), by omega, acc, out, e1, e2, e3, e4, e5, rfl, hlt, e6⟩, fun x H' y => ?_⟩
    obtain ⟨rfl, dx⟩ := yl x H' y
    refine ⟨{ c with Oc := D :: c.Oc }, wipeD sd vs, os, ds[i], hk, rw', by rw [← hk]; exact dx, hg _ _ _ _ (fun s k σ2 os2 r2 b2 => ⟨?_, ?_⟩) q⟩
    · rw [wipe_but b2 hsub, wipe_idem]
    · refine ⟨{ c with Oc := D :: c.Oc }, s, os2, hk, r2, ht _ _ _ (fun b kb H3 x3 => ?_) k⟩
      cases b with
      | false =>
        show ∃ acc out, _
        exact ⟨acc, out, x3.st D _ nS hDa, DxAll.grow (S := c.S) rw'.sO x3 dacc, rw'.grow x3, x1.trans x3, kb, by omega⟩
      | true =>
        refine ⟨{ c with Oc := D :: c.Oc }, s, os2, hk, r2.grow x3, he _ _ _ (fun z kz y H4 x4 rv => ?_) kb⟩
        have x34 := x3.trans x4
        have a4 := x34.st D _ nS hDa
        refine ⟨acc, a4, by omega, acc ++ [y], out ++ [z.dat], upd_same, ?_, (rw'.grow x34).updO List.mem_cons_self nS h0 own_lst, ext_upd (x1.trans x34) hD nS, ?_, by rw [List.length_append]; show acc.length + 1 ≤ i + 1; omega⟩
        · rw [hid_upd (mem_OO.mpr (.inl List.mem_cons_self))]
          refine (DxAll.grow (S := c.S) rw'.sO x34 dacc).app (.cons ?_ .nil)
          have dz := RvR.cl rv fun b m => (r2.grow x3).there m
          rw [hk]
          refine Dx.same (hid_same (fun _ _ _ h => h) fun b m => .inl ?_) _ _ dz
          rcases mem_OO.mp m with z | z
          · exact mem_OO.mpr (.inl z)
          · obtain ⟨j, hj, ej⟩ := List.getElem_of_mem z
            have e1 : os[j]? = some (some b) := by rw [List.getElem?_eq_getElem hj, ej]
            have nj : j ∉ is := fun mi => hos j (hsub j mi) b e1
            exact mem_OO.mpr (.inr (List.mem_of_getElem? ((b2.2 j nj).2.trans e1)))
        · refine lcW_mo hg ht he _ _ _ _ (fun rest k => ?_) kz
          rw [List.append_assoc]
          exact k
  · have e : i = ds.length := by omega
    subst e
    rw [List.drop_length] at q
    refine .inl ⟨ok.2 _ (Nat.le_refl _), ?_⟩
    have q : ∀ v H', Ext c.S H1 H' → RvR X.K (OO c os) H1 H' v (.fr (out ++ [])) → Q v H' := q
    rw [List.append_nil] at q
    exact q _ H x1 ⟨D, acc, rfl, hD, hDa, by rw [← hk]; exact dacc⟩
end
end DL

set_option Elab.async false
set_option linter.all false
set_option maxRecDepth 100000
set_option maxHeartbeats 4000000
/-! comprehensions as expressions; a def by its body; the law's end -/
namespace DL
open PySem PySem.Spec PyProof.Rows L2
variable [Tb]
section
variable {X : Cx} {a b e tg iter elt : Expr} {ifs : List Expr} {pos p : Pos} {g : WG} {t : WB} {we : WR} {is : List Nat} {scope : Scope} {own : List (Str × Nat)}
def okVs (sd : SD) (vs : List Nat) : Bool := vs.all fun i => noOw (getS sd i)
theorem okVs_all {sd : SD} {vs : List Nat} (h : okVs sd vs = true) : ∀ i ∈ vs, noOw (getS sd i) = true := List.all_eq_true.mp h
/-- a comprehension, by its parts -/
structure EvC (X : Cx) (elt tg iter : Expr) (ifs : List Expr) (scope : Scope) (w : WR) : Prop where
  ex : ∃ (own : List (Str × Nat)) (wi : TI) (g : TG) (tt : TT) (te : TE), PI X tg iter wi ∧ BlkOk X.N X.env.scope scope own ∧
    (∀ (s : Shared) (H : Hp) (C : Addr) (cl : List (Str × Addr)) (fp : List Addr), PG (X.blk s H scope (compEnvC scope cl C X.env) fp) tg g) ∧
    (∀ (s : Shared) (H : Hp) (C : Addr) (cl : List (Str × Addr)) (fp : List Addr), PTs (X.blk s H scope (compEnvC scope cl C X.env) fp) ifs tt) ∧
    (∀ (s : Shared) (H : Hp) (C : Addr) (cl : List (Str × Addr)) (fp : List Addr), PE (X.blk s H scope (compEnvC scope cl C X.env) fp) elt te) ∧
    (∀ x, foldedSetIterable iter X.env x = pure x) ∧ ∀ σ H Q, tR X.K w σ H Q → tLc wi g tt te (own.map (·.2)) σ H Q
  mo : ∀ sd (Q Q' : RV → Prop), (∀ r, Q r → Q' r) → w sd Q → w sd Q'
theorem EvC.rv {w : WR} (h : EvC X elt tg iter ifs scope w) (hc : X.calm = true) (hN : X.N.Nodup) : EvR X (.ListComp elt [⟨tg, iter, ifs, 0⟩] scope pos) w where
  pe := by
    obtain ⟨own, wi, g, tt, te, h1, h2, h3, h4, h5, h6, h7⟩ := h.ex
    exact PE.weak (pe_lc hc hN h1 h2 h3 h4 h5 h6) h7
  mo := h.mo
/-- name = a comprehension, in one row -/
theorem evs_setLC {w : WR} {py : Pos} {spos : Pos} {y : Str} (i : Nat) (h : EvC X elt tg iter ifs scope w) (hc : X.calm = true) (hN : X.N.Nodup) (hy : X.N[i]? = some y := by rfl) (hyl : X.env.scope.names.lookup y = some .local := by rfl)
    (hsw : swapsWith (.ListComp elt [⟨tg, iter, ifs, 0⟩] scope pos) (some (.Name y py)) spos.line X.env = pure true := by exact sw_true rfl rfl rfl (by decide +kernel)) :
    EvS X (.Assign [.Name y py] (.ListComp elt [⟨tg, iter, ifs, 0⟩] scope pos) spos) (fun E sd => w sd fun z => E.nx (sd.set i z.sv)) where
  ps := by
    obtain ⟨own, wi, g, tt, te, h1, h2, h3, h4, h5, h6, h7⟩ := h.ex
    refine PS.weak (ps_setLc hc hN hy hyl hsw h1 h2 h3 h4 h5 h6) fun D σ H ⟨c, sd, os, E, hk, r, er, q⟩ => ?_
    refine h7 σ H _ ⟨c, sd, os, hk, r, h.mo _ _ _ (fun z kz v H' x rv => ?_) q⟩
    obtain ⟨oa, r'⟩ := R.set (i := i) r x (by rw [hk]; exact rv)
    exact er.nx _ _ _ _ r' kz
  mo := fun E E' sd h1 _ _ _ q => h.mo _ _ _ (fun z y => h1 _ y) q
/-- [elt for tg in iter if ..] over a list or a tuple -/
theorem evc_lc {wi : WD} (h : Ev .sh X iter wi) (ok : BlkOk X.N X.env.scope scope own)
    (hg : ∀ (s : Shared) (H : Hp) (C : Addr) (cl : List (Str × Addr)) (fp : List Addr), EvG (X.blk s H scope (compEnvC scope cl C X.env) fp) tg is g)
    (ht : ∀ (s : Shared) (H : Hp) (C : Addr) (cl : List (Str × Addr)) (fp : List Addr), EvI (X.blk s H scope (compEnvC scope cl C X.env) fp) ifs t)
    (he : ∀ (s : Shared) (H : Hp) (C : Addr) (cl : List (Str × Addr)) (fp : List Addr), EvR (X.blk s H scope (compEnvC scope cl C X.env) fp) elt we)
    (hsub : ∀ i ∈ is, i ∈ own.map (·.2) := by decide) (hs : ∀ x, foldedSetIterable iter X.env x = pure x := by intro _; rfl) :
    EvC X elt tg iter ifs scope (fun sd Q => wi sd fun d => dItems d fun ds =>
      (okVs sd (own.map (·.2)) = true ∧ ds.length ≤ sizeLine) ∧ lcW g t we (wipeD sd (own.map (·.2))) ds fun out => Q (.fr out)) where
  ex := ⟨own, _, _, _, _, pi_seq h.pe, ok, fun s H C cl fp => (hg s H C cl fp).pg, fun s H C cl fp => (ht s H C cl fp).pt, fun s H C cl fp => (he s H C cl fp).pe, hs,
    fun σ H Q ⟨c, sd, os, hk, r, q⟩ => by
    have hg' := (hg X.s_0 X.H_0 0 [] []).mo
    have ht' := (ht X.s_0 X.H_0 0 [] []).mo
    have he' := (he X.s_0 X.H_0 0 [] []).mo
    refine ⟨c, sd, os, hk, r, h.mo _ _ _ (fun d kz v H1 x1 dm => ?_) q⟩
    have rr := r.grow x1
    cases d with
    | list ds =>
      obtain ⟨⟨k1, k2⟩, k3⟩ := kz
      obtain ⟨a, xs, rfl, d1, d2⟩ := dm
      refine .inl ⟨a, xs, rfl, .inl (.inl (hid_some d1).2), fun D hD => lc_run hg' ht' he' hk rr hD (okVs_all k1) hsub (fun H2 x2 => ?_) k2
        (lcW_mo hg' ht' he' _ _ _ _ (fun out kq v' H' x' rv => kq v' H' (x1.trans x') (RvR.from r.sO (fun b m => rr.there m) x1 rv)) k3)⟩
      rw [hk]
      refine it_l (x2.st a _ (hid_some d1).1 (hid_some d1).2) (DxAll.same (hid_same (fun b o n e => x2.st b o (fun z => n (r.sO b z)) e) fun b m => ?_) _ _ d2)
      rcases mem_OO.mp m with z | z
      · rcases List.mem_cons.mp z with rfl | z
        · exact .inr hD
        · exact .inl (mem_OO.mpr (.inl z))
      · exact .inl (mem_OO.mpr (.inr z))
    | tuple ds =>
      obtain ⟨⟨k1, k2⟩, k3⟩ := kz
      obtain ⟨a, xs, rfl, d1, d2⟩ := shTup dm
      refine .inr ⟨a, xs, rfl, SqT.same hid_sub d1, fun D hD => lc_run hg' ht' he' hk rr hD (okVs_all k1) hsub (fun H2 x2 => ?_) k2
        (lcW_mo hg' ht' he' _ _ _ _ (fun out kq v' H' x' rv => kq v' H' (x1.trans x') (RvR.from r.sO (fun b m => rr.there m) x1 rv)) k3)⟩
      rw [hk]
      have sub : Same (hid (OO c os) H1) (hid (OO { c with Oc := D :: c.Oc } os) H2) := hid_same (fun b o n e => x2.st b o (fun z => n (r.sO b z)) e) fun b m => by
        rcases mem_OO.mp m with z | z
        · rcases List.mem_cons.mp z with rfl | z
          · exact .inr hD
          · exact .inl (mem_OO.mpr (.inl z))
        · exact .inl (mem_OO.mpr (.inr z))
      exact it_t (SqT.same hid_sub (SqT.same sub d1)) (DxAll.same sub _ _ d2)
    | _ => exact kz.elim⟩
  mo := fun sd Q Q' k q => h.mo _ _ _ (fun d z => dItems_mo (fun ds z => ⟨z.1, lcW_mo (hg X.s_0 X.H_0 0 [] []).mo (ht X.s_0 X.H_0 0 [] []).mo (he X.s_0 X.H_0 0 [] []).mo _ _ _ _ (fun r y => k _ y) z.2⟩) z) q
/-- .. over range(a) -/
theorem evc_lcR {wi : WD} (h : Ev .sh X a wi) (ok : BlkOk X.N X.env.scope scope own) (hm : X.mg "range" = none)
    (hg : ∀ (s : Shared) (H : Hp) (C : Addr) (cl : List (Str × Addr)) (fp : List Addr), EvG (X.blk s H scope (compEnvC scope cl C X.env) fp) tg is g)
    (ht : ∀ (s : Shared) (H : Hp) (C : Addr) (cl : List (Str × Addr)) (fp : List Addr), EvI (X.blk s H scope (compEnvC scope cl C X.env) fp) ifs t)
    (he : ∀ (s : Shared) (H : Hp) (C : Addr) (cl : List (Str × Addr)) (fp : List Addr), EvR (X.blk s H scope (compEnvC scope cl C X.env) fp) elt we)
    (hgl : Gl X "range" := by rfl) (hsub : ∀ i ∈ is, i ∈ own.map (·.2) := by decide) {pos2 : Pos}
    (h1 : starEach [a] X.env = (false, eval a X.env) :: starEach [] X.env := by rfl) (h2 : starEach [a] X.env = [(false, eval a X.env)] := by rfl)
    (hs : ∀ x, foldedSetIterable (.Call (.Name "range" p) [a] [] pos2) X.env x = pure x := by intro _; rfl) :
    EvC X elt tg (.Call (.Name "range" p) [a] [] pos2) ifs scope (fun sd Q => wi sd fun d => dInt1 d fun n =>
      (okVs sd (own.map (·.2)) = true ∧ n ≤ 1000000) ∧ lcW g t we (wipeD sd (own.map (·.2))) (rangeD 0 n.toNat) fun out => Q (.fr out)) where
  ex := ⟨own, _, _, _, _, pi_range1 hgl hm (pa_cons h.pe pa_nil h1) h2, ok, fun s H C cl fp => (hg s H C cl fp).pg, fun s H C cl fp => (ht s H C cl fp).pt, fun s H C cl fp => (he s H C cl fp).pe, hs,
    fun σ H Q ⟨c, sd, os, hk, r, q⟩ => by
    have hg' := (hg X.s_0 X.H_0 0 [] []).mo
    have ht' := (ht X.s_0 X.H_0 0 [] []).mo
    have he' := (he X.s_0 X.H_0 0 [] []).mo
    refine ⟨c, sd, os, hk, r, h.mo _ _ _ (fun d kz v H1 x1 dm => ?_) q⟩
    have rr := r.grow x1
    obtain ⟨n, rfl, ⟨q1, q2⟩, ⟨k1, k2⟩, k3⟩ := dInt1_get kz
    refine ⟨n, by rw [shInt dm], q1, q2, fun D hD => lc_run hg' ht' he' hk rr hD (okVs_all k1) hsub (fun H2 x2 => it_r) ?_
        (lcW_mo hg' ht' he' _ _ _ _ (fun out kq v' H' x' rv => kq v' H' (x1.trans x') (RvR.from r.sO (fun b m => rr.there m) x1 rv)) k3)⟩
    unfold rangeD
    rw [List.length_map, List.length_range, sizeLine_eq]
    omega⟩
  mo := fun sd Q Q' k q => h.mo _ _ _ (fun d z => dInt1_mo (fun ds z => ⟨z.1, lcW_mo (hg X.s_0 X.H_0 0 [] []).mo (ht X.s_0 X.H_0 0 [] []).mo (he X.s_0 X.H_0 0 [] []).mo _ _ _ _ (fun r y => k _ y) z.2⟩) z) q
end

/-! ### a def by its body -/
@[reducible] def AV.sv : AV → SV
  | .va d => .va d
  | .so => .so
  | .fn f => .fn f
def startD (n : Nat) (as : List AV) : SD := as.map AV.sv ++ List.replicate (n - as.length) .un
theorem start_slot {c : Cd} {O : List Addr} {H : Hp} {n : Nat} : ∀ {vs : List V} {as : List AV}, DAs .cl c.K c.S O H vs as → ∀ (i : Nat) (s : SV) (v : Option V),
    (as.map AV.sv ++ List.replicate n SV.un)[i]? = some s → (vs.map some ++ List.replicate n none)[i]? = some v → SlotR c O H s v none
  | _, _, .nil, i, s, v, h1, h2 => by
    simp only [List.map_nil, List.nil_append] at h1 h2
    have : s = .un := List.eq_of_mem_replicate (List.mem_of_getElem? h1)
    subst this
    rfl
  | _, _, .va h t, 0, s, v, h1, h2 => by
    cases h1
    cases h2
    exact ⟨rfl, _, rfl, h⟩
  | _, _, .so (x := x) (y := y) h t, 0, s, v, h1, h2 => by
    cases h1
    cases h2
    exact ⟨rfl, x, y, h, rfl⟩
  | _, _, .va h t, i + 1, s, v, h1, h2 => start_slot t i s v (by simpa using h1) (by simpa using h2)
  | _, _, .fn t, 0, s, v, h1, h2 => by
    cases h1
    cases h2
    exact ⟨rfl, rfl⟩
  | _, _, .fn t, i + 1, s, v, h1, h2 => start_slot t i s v (by simpa using h1) (by simpa using h2)
  | _, _, .so h t, i + 1, s, v, h1, h2 => start_slot t i s v (by simpa using h1) (by simpa using h2)
section
variable {P : Program} {w : World} {K : PySem.W.Frag} {mg : Str → Option Value} {base : Heap}
def endE (Q : RV → Prop) : ED := { nx := fun _ => Q (.va .none), rt := Q, bk := fun _ => False, ct := fun _ => False }
theorem fn_dataC {k : Nat} {x qual : Str} {st : Stmt} {f : Addr} {fd : FuncData} {N ps : List Str} {fs : FSp} {wb : WS}
    (F : Fun K x qual st f fd) (S : FnScope N ps (defScope st))
    (body : ∀ (cdv : Value), fd.code = cdv → ∀ (A : Around) (outer : List Env) (s : Shared) (H : Hp) (E : XK), RmG k (A.deeper (envOfC qual (defScope st) s.heap.objs.size f cdv)) →
      EvB (cxOf CX0 P w K mg base N qual (defScope st) f cdv A outer s H E).nox (defBody st) wb)
    (run : ∀ as Q, as.length = ps.length → fs as Q → wb (endE Q) (startD N.length as)) : FnG P w K mg base CX0 (k + 1) f fd ps (PSp K ps.length fs) := by
  refine fn_bodyC F S (fun vs H Q E ⟨S', Oc, as, h1, h2, h3, h4, h5, h6⟩ => h4.len.trans h5) fun cdv hcd A outer s H vs Q E hr hsp => ?_
  have B := body cdv hcd A outer s H E hr
  refine ⟨_, B.ps.nox, ?_⟩
  obtain ⟨S', Oc, as, h1, h2, h3, h4, h5, h6⟩ := hsp
  have hl := h4.len
  refine ⟨⟨K, H, Oc, S', []⟩, startD N.length as, List.replicate (startD N.length as).length none, endE (fun r => ∀ v H', Ext S' H H' → RvR K Oc H H' v r → Q v H'), rfl, ?_, ?_, run as _ h5 h6⟩
  · have e2 : L2.start N vs = vs.map some ++ List.replicate (N.length - as.length) none := by
      unfold L2.start
      rw [hl]
    have hOO : OO ⟨K, H, Oc, S', []⟩ (List.replicate (startD N.length as).length none) = Oc := by
      unfold OO
      have : (List.replicate (startD N.length as).length (none : Option Addr)).filterMap id = [] := by
        apply List.filterMap_eq_nil_iff.mpr
        intro z m
        rw [List.eq_of_mem_replicate m]
        rfl
      rw [this, List.append_nil]
    have no : ∀ (a : Addr), some a ∉ List.replicate (startD N.length as).length (none : Option Addr) := fun a m => by
      have := List.eq_of_mem_replicate m
      cases this
    refine ⟨Ext.refl, h1, h2, h3, ?_, ?_, fun i s v oa g1 g2 g3 => ?_, fun i j a g1 _ => absurd (List.mem_of_getElem? g1) (no a), fun p m => (by cases m), fun a m => absurd m (no a)⟩
    · rw [e2]
      unfold startD
      simp [hl]
    · rw [e2]
      unfold startD
      simp [hl]
    · rw [hOO]
      have e3 : oa = none := List.eq_of_mem_replicate (List.mem_of_getElem? g3)
      subst e3
      rw [e2] at g2
      exact start_slot (c := ⟨K, H, Oc, S', []⟩) h4 i s v g1 g2
  · exact ⟨fun sd os σ H' r q => q .non H' r.ext .non, fun _ _ _ _ _ q => q.elim, fun _ _ _ _ _ q => q.elim, fun z v H' x rv q => q v H' x rv⟩
theorem fn_data {k : Nat} {x qual : Str} {st : Stmt} {f : Addr} {fd : FuncData} {N ps : List Str} {fs : FSp} {wb : WS}
    (F : Fun K x qual st f fd) (S : FnScope N ps (defScope st))
    (body : ∀ (cdv : Value) (A : Around) (outer : List Env) (s : Shared) (H : Hp) (E : XK), RmG k (A.deeper (envOfC qual (defScope st) s.heap.objs.size f cdv)) →
      EvB (cxOf CX0 P w K mg base N qual (defScope st) f cdv A outer s H E).nox (defBody st) wb)
    (run : ∀ as Q, as.length = ps.length → fs as Q → wb (endE Q) (startD N.length as)) : FnG P w K mg base CX0 (k + 1) f fd ps (PSp K ps.length fs) :=
  fn_dataC F S (fun cdv _ => body cdv) run
end
end DL

set_option Elab.async false
set_option linter.all false
set_option maxRecDepth 100000
set_option maxHeartbeats 4000000
/-! isinstance; [::-1]; ghosts; the law's end -/
namespace DL
open PySem PySem.Spec PyProof.Rows L2
variable [Tb]
/-! ### isinstance -/
def tyN : PyData → String
  | .none => "NoneType"
  | .bool _ => "bool"
  | .int _ => "int"
  | .str _ => "str"
  | .list _ => "list"
  | .tuple _ => "tuple"
  | .dict _ => "dict"
theorem Dx.ty {K : PySem.W.Frag} {H : Hp} {v : V} {d : PyData} (h : Dx K H v d) : TyX K H v (.type (tyN d)) := by
  cases h with
  | non => exact .base .non
  | bl b => exact .base (.bl b)
  | int i => exact .base (.int i)
  | str x => exact .base (.str x)
  | lst h1 h2 => exact .base (.lst h1)
  | tup h1 h2 =>
    rcases h1 with (h | ⟨o, h⟩) | ⟨o, its, n, h, hc, _⟩
    · exact .base (.tup h)
    · exact .fTuple h
    · exact .kTuple h hc
  | dct h1 h2 h3 => obtain ⟨kvs, rfl, _⟩ := h2; exact .base (.dK h1)
section
variable {X : Cx} {e : Expr} {pos p p1 p2 : Pos} {x : Str}
def wIsi (T : String) (w : WD) : WR := fun sd Q => w sd fun d => match kitB (tyN d) T with
  | some b => Q (.va (.bool b))
  | none => False
/-- isinstance(e, T), T a built-in class -/
theorem evr_isi {w : WD} (T : String) (tx : Str) (h : Ev .bo X e w) (hm : X.mg "isinstance" = none) (hmt : X.mg tx = none) (hv : bootBuiltins "isinstance" = some (.builtin "isinstance")) (hvt : bootBuiltins tx = some (.type T))
    (hg : Gl X "isinstance" := by rfl) (hgt : Gl X tx := by rfl) (hn : tx ≠ "__name__" := by decide) (hdb : (tx == ("__debug__" : Str)) = false := by decide)
    (h1 : starEach [e, .Name tx p2] X.env = (false, eval e X.env) :: starEach [.Name tx p2] X.env := by rfl) (h2 : starEach [.Name tx p2] X.env = (false, eval (.Name tx p2) X.env) :: starEach [] X.env := by rfl)
    (hpl : (backTo pos (starEach [.Name tx p2] X.env)).any (·.1) = false := by rfl) :
    EvR X (.Call (.Name "isinstance" p) [e, .Name tx p2] [] pos) (wIsi T w) where
  pe := PE.weak (pe_callB call_isi hg hm hv (pa_cons h.pe (pa_cons (pe_bltn hgt hmt hvt (v := V.ty T) rfl hn hdb) pa_nil h2) h1) (he := h1) (hpl := hpl)) fun σ H Q ⟨c, sd, os, hk, r, q⟩ =>
    ⟨c, sd, os, hk, r, h.mo _ _ _ (fun d k v H1 x1 dm => by
      cases e : kitB (tyN d) T with
      | none => rw [e] at k; exact k.elim
      | some b =>
        rw [e] at k
        exact ⟨v, V.ty T, .type (tyN d), .type T, b, rfl, .ty T, Dx.ty (Dx.same hid_sub _ _ dm), kit_ty e, k _ H1 x1 (.bl b)⟩) q⟩
  mo := fun sd Q Q' k q => h.mo _ _ _ (fun d z => by
    cases e : kitB (tyN d) T with
    | none => rw [e] at z; exact z.elim
    | some b => rw [e] at z; exact k _ z) q
/-! ### [::-1] -/
def wBack (w : WD) : WR := fun sd Q => w sd fun d => match d with
  | .list ds => Q (.fr ds.reverse)
  | .tuple ds => Q (.va (.tuple ds.reverse))
  | _ => False
theorem evr_back {w : WD} {k : Nat} {p3 : Pos} (h : Ev .sh X e w) : EvR X (.Subscript e (.Slice none none (some (.UnaryOp .USub (.Constant (.int 1) k p1) p2)) p3) pos) (wBack w) where
  pe := PE.weak (pe_back h.pe) fun σ H Q ⟨c, sd, os, hk, r, q⟩ => ⟨c, sd, os, hk, r, h.mo _ _ _ (fun d k v H1 x1 dm => by
    have ht : ∀ a ∈ OO c os, H1 a ≠ none := fun a m => (r.grow x1).there m
    cases d with
    | list ds =>
      obtain ⟨a, us, rfl, h1, h2⟩ := dm
      exact .inr ⟨a, us, rfl, .inl (.inl (hid_some h1).2), fun p hp => k _ _ (x1.trans (Ext.of (same_new hp))) (RvR.from r.sO ht x1 (rv_lst hp h2.rev))⟩
    | tuple ds =>
      obtain ⟨a, us, rfl, h1, h2⟩ := shTup dm
      exact .inl ⟨a, us, rfl, SqT.same hid_sub h1, fun p hp => k _ _ (x1.trans (Ext.of (same_new hp))) (rv_tup hp ht h2.rev)⟩
    | _ => exact k.elim) q⟩
  mo := fun sd Q Q' k q => h.mo _ _ _ (fun d z => by
    cases d with
    | list ds => exact k _ z
    | tuple ds => exact k _ z
    | _ => exact z.elim) q
/-! ### a list of one's own is from now on nobody's -/
def frzD (i : Nat) (sd : SD) : SD := match getS sd i with
  | .ow ds => sd.set i (.va (.list ds))
  | .od es => sd.set i (.va (.dict es))
  | _ => sd
theorem evb_frz {sts : List Stmt} {w : WS} (i : Nat) (h : EvB X sts w) : EvB X sts (fun E sd => w E (frzD i sd)) where
  ps := PSs.weak h.ps fun D σ H ⟨c, sd, os, E, hk, r, er, q⟩ => by
    have q : w E (frzD i sd) := q
    unfold frzD at q
    cases es : getS sd i with
    | ow ds =>
      rw [es] at q
      obtain ⟨v, _, r', _⟩ := r.frz es
      exact ⟨c, _, _, E, hk, r', er, q⟩
    | un => rw [es] at q; exact ⟨c, sd, os, E, hk, r, er, q⟩
    | va d => rw [es] at q; exact ⟨c, sd, os, E, hk, r, er, q⟩
    | so => rw [es] at q; exact ⟨c, sd, os, E, hk, r, er, q⟩
    | fn _ => rw [es] at q; exact ⟨c, sd, os, E, hk, r, er, q⟩
    | od ds =>
      rw [es] at q
      obtain ⟨v, _, r', _⟩ := r.frzO es
      exact ⟨c, _, _, E, hk, r', er, q⟩
  mo := fun E E' sd h1 h2 h3 h4 q => h.mo _ _ _ h1 h2 h3 h4 q
end

/-! ### the law's end -/
theorem lawG_call {P : Program} {w : World} {K : PySem.W.Frag} {mg mb : Str → Option Value} {k : Nat} {fa a : Addr} {fd : FuncData} {x : Str} {sp : Sp} {s₁ : Shared} {vs : List Value} {ns : List Int}
    (KX : K.In s₁.heap) (hns : s₁.heap.Ns mainGlobals mg) (hb : s₁.heap.Ns builtinsNs mb) (hbb : ∀ x : Str, x ≠ "__name__" → mb x = bootBuiltins x) (hlim : s₁.heap.NoLimit) (hg : s₁.gens = #[])
    (ha : s₁.heap.get? a = some { cls := .type "list", data := .seq vs.toArray }) (hi : IntsAre vs ns) (hl : ns.length ≤ sizeLine) (hr : RmG k callerA)
    (F : ∀ base : Heap, K.In base → base.Ns mainGlobals mg → FnG P w K mg base CX0 k fa fd [x] sp) (hbind : ∀ (s : Shared) (u : Value), BindsTo s fd ⟨[u], []⟩ [(x, u)])
    (hsp : ∀ H : Hp, Only H → SqL K H a (ns.map V.int) → sp [.ref a] H (fun v _ => v = .bl true) fun _ _ _ => False) :
    codeAny (model P w) callerA (.call (.ref fa) ⟨[.ref a], []⟩) (fun r s' => r = .ok (.ret (.bool true)) ∧ OldK s₁.heap s'.heap ∧ s'.os = s₁.os ∧ AllBare s'.gens) s₁ := by
  have rv : Vals (ns.map V.int) vs := vals_ints hi
  have lv := hi.length
  -- over an abstract heap that tracks at most the script
  suffices core : ∃ H : Hp, Only H ∧ SqL K H a (ns.map V.int) ∧ HOk P w H s₁.heap ∧ (∀ b, H b ≠ none → b = a ∧ K.lookup a = none) by
    obtain ⟨H, hO, hS, hok, hA⟩ := core
    have out : ∀ {b : Addr} {o : Obj}, s₁.heap.get? b = some o → H b = none → (hidT s₁.heap H).get? b = some o := hidT_get
    have dicts : ∀ {b : Addr} {o : Obj} {es : Array DictEntry} {ep : Nat}, s₁.heap.get? b = some o → o.data = .dict es ep → H b = none := by
      intro b o es ep e d
      cases q : H b with
      | none => rfl
      | some u =>
        obtain ⟨rfl, _⟩ := hA b (by rw [q]; exact Option.some_ne_none u)
        rw [ha] at e
        cases e
        cases d
    have names : ∀ {b : Addr} {m : Str → Option Value}, s₁.heap.Ns b m → (hidT s₁.heap H).Ns b m := by
      rintro b m ⟨o, es, ep, e, d, r⟩
      exact ⟨o, es, ep, out e (dicts e d), d, r⟩
    have inK : K.In (hidT s₁.heap H) := by
      intro b o e
      apply out (KX b o e)
      cases q : H b with
      | none => rfl
      | some u =>
        obtain ⟨rfl, n⟩ := hA b (by rw [q]; exact Option.some_ne_none u)
        rw [n] at e
        cases e
    obtain ⟨mc, l1, l2⟩ := hlim
    have e0 : Env0 P w K mg (hidT s₁.heap H) callerA [] s₁ H :=
      ⟨rfl, ⟨inK, names hns, ⟨mb, names hb, hbb⟩, mc, names l1, l2⟩, fun b o e => of_hidT e, Nat.le_of_eq (hidT_size _ _), trivial, fun b m => (by cases m), hok, .of_eq hg⟩
    apply codeAny_mono ((F _ inK (names hns)).run callerA [] s₁ H ⟨[.ref a], []⟩ [.ref a] [.ref a] _ _ hr e0 (hbind s₁ (.ref a)) (.cons rfl .nil) (hsp H hO hS))
    intro r s' h
    match r, h with
    | .error _, h => exact h.elim
    | .ok .next, h => exact h.elim
    | .ok .brk, h => exact h.elim
    | .ok .cont, h => exact h.elim
    | .ok (.ret u), ⟨v, H', os, bare, un, hok', r', q⟩ =>
      have q' : v = .bl true := q
      subst q'
      cases r'
      refine ⟨rfl, OldK.of_keep fun b o e => ?_, os, bare⟩
      cases q : H b with
      | none => exact un.keep b o e q (fun z => by cases z) (fun z => by cases z)
      | some u =>
        rcases hO b with z | ⟨ob, xs, z⟩
        · rw [q] at z; cases z
        · obtain ⟨e1, _⟩ := hok b _ z
          obtain ⟨e2, _⟩ := hok' b _ (un.frzs b ob _ z)
          rw [e] at e1
          cases e1
          exact e2
  cases hk : K.lookup a with
  | some o =>
    -- the script is one of the module's own objects
    have e := KX a o hk
    rw [ha] at e
    cases e
    exact ⟨fun _ => none, fun _ => .inl rfl, .inr ⟨_, vs.toArray, _, hk, rfl, rfl, rfl, by rw [List.size_toArray, lv]; exact hl, by simpa using rv⟩, fun b u z => (by cases z), fun b z => absurd rfl z⟩
  | none =>
    refine ⟨fun b => if b = a then some (.frz { cls := .type "list", data := .seq vs.toArray } (.lst (ns.map V.int))) else none, fun b => ?_, .inl (.inr ⟨_, if_pos rfl⟩), fun b u z => ?_, fun b z => ?_⟩
    · by_cases e : b = a
      · exact .inr ⟨_, _, if_pos e⟩
      · exact .inl (if_neg e)
    · by_cases e : b = a
      · have z' := (if_pos e).symm.trans z
        cases z'
        subst e
        exact ⟨ha, by rw [List.length_map]; exact hl, vs, _, rv, ha⟩
      · have z' := (if_neg e).symm.trans z
        cases z'
    · by_cases e : b = a
      · exact ⟨e, rfl⟩
      · exact absurd (if_neg e) z
/-- the goal that the head leaves -/
theorem walkG {l : PySem.W.OpenLaw} {n k : Nat} {q : Program} {loose : List Str} {XP : (Str → Option Value) → Heap → Prop} {YP : World → Heap → Prop} {d : DefRec} {K : Params → PySem.W.Frag} {sp : World → Sp} {x : Str}
    (hn : l.most = some n) (hn2 : n ≤ sizeLine) (hdf : d.params.defaults = []) (hr : RmG k callerA) (hY : ∀ (w : World) (h : Heap), YP w h → (K w.params).In h)
    (F : ∀ (w : World) (mg : Str → Option Value) (fa : Addr) (h : Heap), (K w.params).In h → h.Ns mainGlobals mg → mg d.name = some (.ref fa) →
      ∃ fd : FuncData, (∀ (s : Shared) (u : Value), BindsTo s fd ⟨[u], []⟩ [(x, u)]) ∧
        ∀ base : Heap, (K w.params).In base → base.Ns mainGlobals mg → FnG l.prog w (K w.params) mg base CX0 k fa fd [x] (sp w))
    (hsp : ∀ (w : World) (H : Hp) (a : Addr) (ns : List Int), ns.length ≤ n → Only H → SqL (K w.params) H a (ns.map V.int) → sp w [.ref a] H (fun v _ => v = .bl true) fun _ _ _ => False) :
    PySem.W.WalkO q loose XP YP l.row.toRowW d [] (fun f vs => PySem.call f vs) := by
  apply Att.attach_call hn hdf
  intro w s₀ s₁ mg mb fa o pm cd doc a vs ns G Y ho hd hcd hmg hobj hints hlen hg
  have inK := hY w _ Y
  obtain ⟨fd, hb, hF⟩ := F w mg fa _ inK G.T.g hmg
  exact lawG_call inK G.T.g G.T.b G.T.builtins G.T.nolimit hg hobj hints (Nat.le_trans hlen hn2) hr hF hb fun H hO hS => hsp w H a ns hlen hO hS
end DL

set_option Elab.async false
set_option linter.all false
set_option maxRecDepth 100000
set_option maxHeartbeats 4000000
/-! what the two defs that draw promise -/
namespace DL
open PySem PySem.Spec PyProof.Rows L2
variable [Tb]
def kvs4 (c : Addr) (l m t : Int) : List (Key × V) := [(.inr "cells", .ref c), (.inr "left", .int l), (.inr "mixed", .int m), (.inr "turn", .int t)]
abbrev kyC : Key := .inr ("cells" : Str)
abbrev kyL : Key := .inr ("left" : Str)
abbrev kyM : Key := .inr ("mixed" : Str)
abbrev kyT : Key := .inr ("turn" : Str)
theorem nCL : ¬ kyC = kyL := by decide +kernel
theorem nCM : ¬ kyC = kyM := by decide +kernel
theorem nCT : ¬ kyC = kyT := by decide +kernel
theorem nLM : ¬ kyL = kyM := by decide +kernel
theorem nLT : ¬ kyL = kyT := by decide +kernel
theorem nMT : ¬ kyM = kyT := by decide +kernel
theorem nML : ¬ kyM = kyL := by decide +kernel
theorem nTL : ¬ kyT = kyL := by decide +kernel
section
variable {c : Addr} {l m t x : Int}
theorem k4_cells : valV (kvs4 c l m t) kyC = some (.ref c) := valV_pos rfl
theorem k4_left : valV (kvs4 c l m t) kyL = some (.int l) := (valV_neg nCL).trans (valV_pos rfl)
theorem k4_mixed : valV (kvs4 c l m t) kyM = some (.int m) := (valV_neg nCM).trans ((valV_neg nLM).trans (valV_pos rfl))
theorem k4_turn : valV (kvs4 c l m t) kyT = some (.int t) := (valV_neg nCT).trans ((valV_neg nLT).trans ((valV_neg nMT).trans (valV_pos rfl)))
theorem k4_putL : putK (kvs4 c l m t) kyL (.int x) = kvs4 c x m t := by
  have e : (kvs4 c l m t).any (fun kv => decide (kv.1 = kyL)) = true := by
    rw [valV_any, k4_left]
    rfl
  unfold putK
  rw [if_pos e]
  show [(if kyC = kyL then (kyC, V.int x) else (kyC, V.ref c)), (if kyL = kyL then (kyL, V.int x) else (kyL, V.int l)), (if kyM = kyL then (kyM, V.int x) else (kyM, V.int m)), (if kyT = kyL then (kyT, V.int x) else (kyT, V.int t))] = _
  rw [if_neg nCL, if_pos rfl, if_neg nML, if_neg nTL]
  rfl
theorem k4_putT : putK (kvs4 c l m t) kyT (.int x) = kvs4 c l m x := by
  have e : (kvs4 c l m t).any (fun kv => decide (kv.1 = kyT)) = true := by
    rw [valV_any, k4_turn]
    rfl
  unfold putK
  rw [if_pos e]
  show [(if kyC = kyT then (kyC, V.int x) else (kyC, V.ref c)), (if kyL = kyT then (kyL, V.int x) else (kyL, V.int l)), (if kyM = kyT then (kyM, V.int x) else (kyM, V.int m)), (if kyT = kyT then (kyT, V.int x) else (kyT, V.int t))] = _
  rw [if_neg nCT, if_neg nLT, if_neg nMT, if_pos rfl]
  rfl
end
section
variable {H : Hp} {a c : Addr} {l m t x : Int}
theorem g4_cells (e : H a = some (.dK (kvs4 c l m t))) : DGet H a (.str "cells") (some (.ref c)) := by
  have g := DGet.k (k := kyC) e
  rw [k4_cells] at g
  exact g
theorem g4_left (e : H a = some (.dK (kvs4 c l m t))) : DGet H a (.str "left") (some (.int l)) := by
  have g := DGet.k (k := kyL) e
  rw [k4_left] at g
  exact g
theorem g4_mixed (e : H a = some (.dK (kvs4 c l m t))) : DGet H a (.str "mixed") (some (.int m)) := by
  have g := DGet.k (k := kyM) e
  rw [k4_mixed] at g
  exact g
theorem g4_turn (e : H a = some (.dK (kvs4 c l m t))) : DGet H a (.str "turn") (some (.int t)) := by
  have g := DGet.k (k := kyT) e
  rw [k4_turn] at g
  exact g
theorem p4_left (e : H a = some (.dK (kvs4 c l m t))) : DPut H a (.str "left") (.int x) (upd H a (.dK (kvs4 c x m t))) := by
  have g := DPut.k (k := kyL) (v := .int x) e (by show 4 < sizeLine; decide)
  rw [k4_putL] at g
  exact g
theorem p4_turn (e : H a = some (.dK (kvs4 c l m t))) : DPut H a (.str "turn") (.int x) (upd H a (.dK (kvs4 c l m x))) := by
  have g := DPut.k (k := kyT) (v := .int x) e (by show 4 < sizeLine; decide)
  rw [k4_putT] at g
  exact g
theorem merge4 : mergeK [] [(kyC, V.ref c), (kyL, V.int l), (kyM, V.int m), (kyT, V.int t)] = kvs4 c l m t := by
  unfold mergeK kvs4
  simp only [List.foldl_cons, List.foldl_nil]
  rw [putK_new (kvs := []) (k := kyC) _ valV_nil, List.nil_append]
  rw [putK_new (k := kyL) _ ((valV_neg nCL).trans valV_nil), List.cons_append, List.nil_append]
  rw [putK_new (k := kyM) _ ((valV_neg nCM).trans ((valV_neg nLM).trans valV_nil)), List.cons_append, List.cons_append, List.nil_append]
  rw [putK_new (k := kyT) _ ((valV_neg nCT).trans ((valV_neg nLT).trans ((valV_neg nMT).trans valV_nil)))]
  rfl
end
/-- where a def of one's own stands -/
structure Cal (K : PySem.W.Frag) (mg : Str → Option Value) (x : Str) (f : Addr) (fd : FuncData) (ps : List Str) : Prop where
  hm : mg x = some (.ref f)
  hk : PySem.W.keepIn K (.ref f) = true
  hb : Binds K fd ps []
/-- a number below the one asked for -/
def fsPick : FSp := fun as Q => match as with
  | [.so, .va (.int m)] => m < 1152921504606846976 ∧ ∀ r : Int, 0 ≤ r → (r < m ∨ r = 0) → Q (.va (.int r))
  | _ => False
theorem moPick : MoF fsPick := by
  intro as Q Q' k q
  unfold fsPick at q ⊢
  split at q
  · exact ⟨q.1, fun r h0 h1 => k _ (q.2 r h0 h1)⟩
  · exact q.elim
def spOpen (K : PySem.W.Frag) : Sp := fun vs H Q _ => ∃ (a : Addr) (ns : List Int), vs = [.ref a] ∧ SqL K H a (ns.map V.int) ∧ ns.length ≤ 63 ∧
  ∀ H' d c, Same H H' → H d = none → H c = none → SrcAt H' d c → Q (.ref d) H'
/-- nothing is promised, nothing may be asked -/
def fsNo : FSp := fun _ _ => False
theorem moNo : MoF fsNo := fun _ _ _ _ q => q
theorem FnG.no {P : Program} {w : World} {K : PySem.W.Frag} {mg : Str → Option Value} {base : Heap} {f : Addr} {fd : FuncData} {ps : List Str} : FnG P w K mg base CX0 0 f fd ps (PSp K ps.length fsNo) :=
  ⟨fun vs H Q E ⟨_, _, _, _, _, _, _, _, q⟩ => q.elim, fun A o s H a us vs Q E _ _ _ _ ⟨_, _, _, _, _, _, _, _, q⟩ => q.elim⟩
end DL

set_option Elab.async false
set_option linter.all false
set_option maxRecDepth 100000
set_option maxHeartbeats 4000000
/-! rows as trees -/
namespace DL
open PySem PySem.Spec PyProof.Rows L2
variable [Tb]
/-! ### little facts of data -/
theorem eqv_int (i j : Int) : PyData.eqv (.int i) (.int j) = (i == j) := by simp only [PyData.eqv]
theorem eqv_str (x y : Str) : PyData.eqv (.str x) (.str y) = decide (x = y) := by simp only [PyData.eqv]; first | rfl | (by_cases h : x = y <;> simp [h])
theorem sh_int (i : Int) : SeqAt.shaped (.int i) = true := by simp [SeqAt.shaped, PyData.canLay0, PyData.depth]
theorem sh_str {i : Str} (h : PyData.strOk i = true) : SeqAt.shaped (.str i) = true := by simp [SeqAt.shaped, PyData.canLay0, PyData.depth, h]
theorem sh_non : SeqAt.shaped .none = true := by simp [SeqAt.shaped, PyData.canLay0, PyData.depth]
theorem sh_bl (b : Bool) : SeqAt.shaped (.bool b) = true := by simp [SeqAt.shaped, PyData.canLay0, PyData.depth]
theorem sl2 : (2 : Nat) ≤ sizeLine := by decide
theorem atI0 {α : Type} (x : α) (xs : List α) : atI (x :: xs) 0 = some x := by
  have := L2.atI_nat (xs := x :: xs) (j := 0) (v := x) rfl
  exact this
theorem atI1 {α : Type} (x y : α) (xs : List α) : atI (x :: y :: xs) 1 = some y := by
  have := L2.atI_nat (xs := x :: y :: xs) (j := 1) (v := y) rfl
  exact this
theorem dat_va (d : PyData) : (RV.va d).dat = d := rfl
theorem dat_fr (ds : List PyData) : (RV.fr ds).dat = .list ds := rfl
theorem sv_va (d : PyData) : (RV.va d).sv = .va d := rfl
theorem sv_fr (ds : List PyData) : (RV.fr ds).sv = .ow ds := rfl
theorem beq0 (n : Nat) : (((n : Int) + 1 : Int) == 0) = false := by rw [beq_eq_false_iff_ne]; omega
theorem onOw_ow {i : Nat} {sd : SD} {k : List PyData → Prop} {ds : List PyData} (e : getS sd i = .ow ds) : onOw i sd k = k ds := by unfold onOw; rw [e]
theorem nil_or_snoc {α : Type} (xs : List α) : xs = [] ∨ ∃ init x, xs = init ++ [x] := by
  rcases List.eq_nil_or_concat xs with h | ⟨i, x, h⟩
  · exact .inl h
  · exact .inr ⟨i, x, by rw [h, List.concat_eq_append]⟩
/-! ### rows -/
inductive Rw where
  | let (c : Fin 26)
  | join (rs : List Rw)
  | right (r : Rw)
  | left (r : Rw)
  | mix (rs : List Rw)
abbrev sJ : Str := "join"
abbrev sR : Str := "right"
abbrev sL : Str := "left"
abbrev sM : Str := "mix"
mutual
def Rw.toD : Rw → PyData
  | .let c => .str ⟨#[97 + c.val]⟩
  | .join rs => .tuple [.str sJ, .tuple (Rw.toDs rs)]
  | .right r => .tuple [.str sR, r.toD]
  | .left r => .tuple [.str sL, r.toD]
  | .mix rs => .tuple [.str sM, .tuple (Rw.toDs rs)]
def Rw.toDs : List Rw → List PyData
  | [] => []
  | r :: rs => r.toD :: Rw.toDs rs
end
mutual
/-- letters and tuples that begin with a word -/
def Rw.nodes : Rw → Nat
  | .let _ => 1
  | .join rs => 1 + Rw.nodesL rs
  | .right r => 1 + r.nodes
  | .left r => 1 + r.nodes
  | .mix rs => 1 + Rw.nodesL rs
def Rw.nodesL : List Rw → Nat
  | [] => 0
  | r :: rs => r.nodes + Rw.nodesL rs
end
mutual
/-- joins in it laid open -/
def Rw.opened : Rw → List Rw
  | .join rs => Rw.openedL rs
  | r => [r]
def Rw.openedL : List Rw → List Rw
  | [] => []
  | r :: rs => r.opened ++ Rw.openedL rs
end
theorem Rw.toDs_eq : ∀ rs : List Rw, Rw.toDs rs = rs.map Rw.toD
  | [] => by simp only [Rw.toDs, List.map_nil]
  | r :: rs => by simp only [Rw.toDs, List.map_cons, Rw.toDs_eq rs]
theorem Rw.openedL_eq : ∀ rs : List Rw, Rw.openedL rs = rs.flatMap Rw.opened
  | [] => by simp only [Rw.openedL, List.flatMap_nil]
  | r :: rs => by simp only [Rw.openedL, List.flatMap_cons, Rw.openedL_eq rs]
theorem Rw.openedL_cons (r : Rw) (rs : List Rw) : Rw.openedL (r :: rs) = r.opened ++ Rw.openedL rs := by simp only [Rw.openedL]
theorem Rw.nodesL_eq : ∀ rs : List Rw, Rw.nodesL rs = (rs.map Rw.nodes).sum
  | [] => by simp only [Rw.nodesL, List.map_nil, List.sum_nil]
  | r :: rs => by simp only [Rw.nodesL, List.map_cons, List.sum_cons, Rw.nodesL_eq rs]
theorem Rw.nodesL_app : ∀ (rs ss : List Rw), Rw.nodesL (rs ++ ss) = Rw.nodesL rs + Rw.nodesL ss
  | [], ss => by simp [Rw.nodesL]
  | r :: rs, ss => by simp only [List.cons_append, Rw.nodesL, Rw.nodesL_app rs ss]; omega
theorem Rw.nodesL_rev : ∀ rs : List Rw, Rw.nodesL rs.reverse = Rw.nodesL rs
  | [] => rfl
  | r :: rs => by rw [List.reverse_cons, Rw.nodesL_app, Rw.nodesL_rev rs]; simp only [Rw.nodesL]; omega
theorem Rw.nodes_pos (r : Rw) : 0 < r.nodes := by cases r <;> simp only [Rw.nodes] <;> omega
theorem Rw.len_le : ∀ rs : List Rw, rs.length ≤ Rw.nodesL rs
  | [] => Nat.zero_le _
  | r :: rs => by simp only [List.length_cons, Rw.nodesL]; have := Rw.len_le rs; have := r.nodes_pos; omega
theorem Rw.openedL_app (rs ss : List Rw) : Rw.openedL (rs ++ ss) = Rw.openedL rs ++ Rw.openedL ss := by
  rw [Rw.openedL_eq, Rw.openedL_eq, Rw.openedL_eq, List.flatMap_append]
mutual
theorem Rw.opened_len : ∀ r : Rw, r.opened.length ≤ r.nodes
  | .join rs => by simp only [Rw.opened, Rw.nodes]; have := Rw.openedL_len rs; omega
  | .let c => by simp [Rw.opened, Rw.nodes]
  | .right r => by simp [Rw.opened, Rw.nodes]
  | .left r => by simp [Rw.opened, Rw.nodes]
  | .mix rs => by simp [Rw.opened, Rw.nodes]
theorem Rw.openedL_len : ∀ rs : List Rw, (Rw.openedL rs).length ≤ Rw.nodesL rs
  | [] => by simp [Rw.openedL]
  | r :: rs => by simp only [Rw.openedL, Rw.nodesL, List.length_append]; have := Rw.opened_len r; have := Rw.openedL_len rs; omega
end
/-- the first thing that is asked of a row: its word, or its letter -/
def Rw.word : Rw → Str
  | .let c => ⟨#[97 + c.val]⟩
  | .join _ => sJ
  | .right _ => sR
  | .left _ => sL
  | .mix _ => sM
theorem nJR : ¬ sR = sJ := by decide +kernel
theorem nJL : ¬ sL = sJ := by decide +kernel
theorem nJM : ¬ sM = sJ := by decide +kernel
theorem nJc (c : Nat) : ¬ (⟨#[c]⟩ : Str) = sJ := by
  intro e
  have := congrArg (fun x : Str => x.cps.size) e
  have h : (sJ : Str).cps.size = 4 := by decide +kernel
  rw [h] at this
  cases this
def Rw.isJ : Rw → Bool
  | .join _ => true
  | _ => false
theorem Rw.word_J (r : Rw) : decide (r.word = sJ) = r.isJ := by
  cases r with
  | «let» c => exact decide_eq_false (nJc _)
  | join rs => exact decide_eq_true rfl
  | right r => exact decide_eq_false nJR
  | left r => exact decide_eq_false nJL
  | mix r => exact decide_eq_false nJM
/-- row[0] -/
theorem rdIx_word (r : Rw) {Q : RV → Prop} (q : Q (.va (.str r.word))) : rdIx r.toD (.int 0) Q := by
  cases r with
  | «let» c =>
    simp only [Rw.toD, rdIx]
    refine ⟨by show 1 ≤ sizeLine; decide, ?_⟩
    show match atI [97 + c.val] 0 with | some c => Q (.va (.str ⟨#[c]⟩)) | none => False
    rw [atI0]
    exact q
  | _ => simp only [Rw.toD, rdIx, atI0]; exact q
theorem ok_sJ : PyData.strOk sJ = true := by decide +kernel
theorem ok_sR : PyData.strOk sR = true := by decide +kernel
theorem ok_sL : PyData.strOk sL = true := by decide +kernel
theorem ok_sM : PyData.strOk sM = true := by decide +kernel
theorem ok_let (c : Fin 26) : PyData.strOk (⟨#[97 + c.val]⟩ : Str) = true := by
  have : 97 + c.val < 1114112 := by omega
  simp [PyData.strOk, this]
theorem Rw.ok_word (r : Rw) : PyData.strOk r.word = true := by
  cases r with
  | «let» c => exact ok_let c
  | join rs => exact ok_sJ
  | right r => exact ok_sR
  | left r => exact ok_sL
  | mix rs => exact ok_sM
end DL

set_option Elab.async false
set_option linter.all false
set_option maxRecDepth 100000
set_option maxHeartbeats 4000000
/-! rows: how deep, how they show, that each is equal to itself -/
namespace DL
open PySem PySem.Spec PyProof.Rows L2
variable [Tb]
mutual
def Rw.dep : Rw → Nat
  | .let _ => 0
  | .join rs => Rw.depL rs + 1
  | .right r => r.dep + 1
  | .left r => r.dep + 1
  | .mix rs => Rw.depL rs + 1
def Rw.depL : List Rw → Nat
  | [] => 0
  | r :: rs => max r.dep (Rw.depL rs)
end
theorem Rw.dep_mem : ∀ {rs : List Rw} {r : Rw}, r ∈ rs → r.dep ≤ Rw.depL rs
  | [], r, m => by cases m
  | s :: rs, r, m => by
    simp only [Rw.depL]
    rcases List.mem_cons.mp m with rfl | m
    · omega
    · have := Rw.dep_mem m; omega
theorem Rw.depL_le {n : Nat} : ∀ {rs : List Rw}, (∀ r ∈ rs, r.dep ≤ n) → Rw.depL rs ≤ n
  | [], _ => Nat.zero_le _
  | r :: rs, h => by
    simp only [Rw.depL]
    have := h r List.mem_cons_self
    have := Rw.depL_le (rs := rs) fun s m => h s (List.mem_cons_of_mem _ m)
    omega
mutual
theorem Rw.lay : ∀ r : Rw, r.toD.canLay0 = true ∧ r.toD.depth ≤ 2 * r.dep
  | .let c => by
    simp only [Rw.toD, PyData.canLay0, PyData.depth]
    exact ⟨ok_let c, Nat.zero_le _⟩
  | .join rs => by
    have := Rw.layL rs
    simp only [Rw.toD, PyData.canLay0, PyData.canLayAll0, PyData.depth, PyData.depthAll, Rw.dep, this.1, ok_sJ, Bool.and_self, true_and]
    omega
  | .mix rs => by
    have := Rw.layL rs
    simp only [Rw.toD, PyData.canLay0, PyData.canLayAll0, PyData.depth, PyData.depthAll, Rw.dep, this.1, ok_sM, Bool.and_self, true_and]
    omega
  | .right r => by
    have := Rw.lay r
    simp only [Rw.toD, PyData.canLay0, PyData.canLayAll0, PyData.depth, PyData.depthAll, Rw.dep, this.1, ok_sR, Bool.and_self, true_and]
    omega
  | .left r => by
    have := Rw.lay r
    simp only [Rw.toD, PyData.canLay0, PyData.canLayAll0, PyData.depth, PyData.depthAll, Rw.dep, this.1, ok_sL, Bool.and_self, true_and]
    omega
theorem Rw.layL : ∀ rs : List Rw, PyData.canLayAll0 (Rw.toDs rs) = true ∧ PyData.depthAll (Rw.toDs rs) ≤ 2 * Rw.depL rs
  | [] => by simp only [Rw.toDs, PyData.canLayAll0, PyData.depthAll]; exact ⟨trivial, Nat.zero_le _⟩
  | r :: rs => by
    have := Rw.lay r
    have h := Rw.layL rs
    simp only [Rw.toDs, PyData.canLayAll0, PyData.depthAll, Rw.depL, this.1, h.1, Bool.and_self, true_and]
    omega
end
theorem Rw.sh (r : Rw) (h : r.dep ≤ 32) : SeqAt.shaped r.toD = true := by
  have := r.lay
  unfold SeqAt.shaped
  rw [this.1, decide_eq_true (by omega)]
  rfl
theorem Rw.shL (rs : List Rw) (h : Rw.depL rs ≤ 31) : SeqAt.shaped (.list (rs.map Rw.toD)) = true := by
  have := Rw.layL rs
  rw [Rw.toDs_eq] at this
  have e1 : PyData.canLay0 (.list (rs.map Rw.toD)) = true := by simp only [PyData.canLay0]; exact this.1
  have e2 : PyData.depth (.list (rs.map Rw.toD)) ≤ 64 := by simp only [PyData.depth]; omega
  unfold SeqAt.shaped
  rw [e1, decide_eq_true e2]
  rfl
theorem Rw.shT (rs : List Rw) (h : Rw.depL rs ≤ 31) : SeqAt.shaped (.tuple (rs.map Rw.toD)) = true := by
  have := Rw.layL rs
  rw [Rw.toDs_eq] at this
  have e1 : PyData.canLay0 (.tuple (rs.map Rw.toD)) = true := by simp only [PyData.canLay0]; exact this.1
  have e2 : PyData.depth (.tuple (rs.map Rw.toD)) ≤ 64 := by simp only [PyData.depth]; omega
  unfold SeqAt.shaped
  rw [e1, decide_eq_true e2]
  rfl
theorem eqv_str_self (s : Str) : PyData.eqv (.str s) (.str s) = true := by rw [eqv_str]; exact decide_eq_true rfl
mutual
theorem Rw.eqv_self : ∀ r : Rw, PyData.eqv r.toD r.toD = true
  | .let c => by simp only [Rw.toD]; exact eqv_str_self _
  | .join rs => by simp only [Rw.toD, PyData.eqv, PyData.eqvAll, Rw.eqvL_self rs, eqv_str_self]; first | rfl | simp
  | .mix rs => by simp only [Rw.toD, PyData.eqv, PyData.eqvAll, Rw.eqvL_self rs, eqv_str_self]; first | rfl | simp
  | .right r => by simp only [Rw.toD, PyData.eqv, PyData.eqvAll, Rw.eqv_self r, eqv_str_self]; first | rfl | simp
  | .left r => by simp only [Rw.toD, PyData.eqv, PyData.eqvAll, Rw.eqv_self r, eqv_str_self]; first | rfl | simp
theorem Rw.eqvL_self : ∀ rs : List Rw, PyData.eqvAll (Rw.toDs rs) (Rw.toDs rs) = true
  | [] => by simp only [Rw.toDs, PyData.eqvAll]
  | r :: rs => by simp only [Rw.toDs, PyData.eqvAll, Rw.eqv_self r, Rw.eqvL_self rs, Bool.and_self]
end
theorem eqv_list_nil (ds : List PyData) : PyData.eqv (.list ds) (.list []) = ds.isEmpty := by
  cases ds with
  | nil => simp only [PyData.eqv, PyData.eqvAll]; rfl
  | cons d ds => simp only [PyData.eqv, PyData.eqvAll]; rfl
theorem eqv_non : PyData.eqv .none .none = true := by simp only [PyData.eqv]
/-! ### how long the text is -/
theorem len_app (s t : Str) : (s ++ t).length = s.length + t.length := by
  show (s.cps ++ t.cps).size = _
  rw [Array.size_append]
  rfl
theorem rl_let : ∀ c : Fin 26, (reprText (⟨#[97 + c.val]⟩ : Str)).length = 3 := by decide +kernel
theorem rl_words : (reprText sJ).length ≤ 7 ∧ (reprText sR).length ≤ 7 ∧ (reprText sL).length ≤ 7 ∧ (reprText sM).length ≤ 7 := by decide +kernel
def sumLen : List Str → Nat
  | [] => 0
  | t :: ts => t.length + 2 + sumLen ts
theorem len_sep : (Str.ofString ", ").length = 2 := by decide +kernel
theorem join_len : ∀ ts : List Str, ((Str.ofString ", ").join ts).length ≤ sumLen ts
  | [] => by simp [Str.join, sumLen]; decide
  | [t] => by simp only [Str.join, sumLen]; omega
  | t :: u :: ts => by
    have := join_len (u :: ts)
    simp only [Str.join, sumLen, len_app, len_sep] at this ⊢
    omega
theorem tup_len (ts : List Str) : (tupleText ts).length ≤ sumLen ts + 3 := by
  unfold tupleText
  rw [len_app, len_app]
  have h := join_len ts
  have h1 : (Str.ofString "(").length = 1 := by decide +kernel
  have h2 : (Str.ofString (if (ts.length == 1) = true then ",)" else ")")).length ≤ 2 := by
    split
    · decide +kernel
    · decide +kernel
  omega
theorem textFrom_len : ∀ (ts : List Str) (k : Nat) (s : Str), (textFrom k s ts).length ≤ s.length + sumLen ts
  | [], k, s => by simp only [textFrom, sumLen]; omega
  | t :: ts, k, s => by
    simp only [textFrom, sumLen]
    have h := textFrom_len ts (k + 1) (s ++ Str.ofString (if k > 0 then ", " else "") ++ t)
    rw [len_app, len_app] at h
    have h2 : (Str.ofString (if k > 0 then ", " else "")).length ≤ 2 := by
      split
      · decide +kernel
      · decide +kernel
    omega
theorem list_len (ts : List Str) : (listText ts).length ≤ sumLen ts + 2 := by
  unfold listText
  rw [len_app]
  have := textFrom_len ts 0 (Str.ofString "[")
  have h1 : (Str.ofString "[").length = 1 := by decide +kernel
  have h2 : (Str.ofString "]").length = 1 := by decide +kernel
  omega
mutual
theorem Rw.show_ok : ∀ r : Rw, r.toD.showable = true ∧ r.toD.shown.length ≤ 30 * r.nodes - 2
  | .let c => by
    simp only [Rw.toD, PyData.showable, PyData.shown, Rw.nodes, true_and, rl_let]
    omega
  | .join rs => by
    have h := Rw.showL_ok rs
    have := tup_len (PyData.shownAll (Rw.toDs rs))
    have h3 := tup_len [reprText sJ, tupleText (PyData.shownAll (Rw.toDs rs))]
    have := rl_words
    simp only [sumLen] at h3
    simp only [Rw.toD, PyData.showable, PyData.showableAll, PyData.shown, PyData.shownAll, Rw.nodes, h.1, Bool.and_self, true_and]
    omega
  | .mix rs => by
    have h := Rw.showL_ok rs
    have := tup_len (PyData.shownAll (Rw.toDs rs))
    have h3 := tup_len [reprText sM, tupleText (PyData.shownAll (Rw.toDs rs))]
    have := rl_words
    simp only [sumLen] at h3
    simp only [Rw.toD, PyData.showable, PyData.showableAll, PyData.shown, PyData.shownAll, Rw.nodes, h.1, Bool.and_self, true_and]
    omega
  | .right r => by
    have h := Rw.show_ok r
    have h3 := tup_len [reprText sR, r.toD.shown]
    have := rl_words
    have := r.nodes_pos
    simp only [sumLen] at h3
    simp only [Rw.toD, PyData.showable, PyData.showableAll, PyData.shown, PyData.shownAll, Rw.nodes, h.1, Bool.and_self, true_and]
    omega
  | .left r => by
    have h := Rw.show_ok r
    have h3 := tup_len [reprText sL, r.toD.shown]
    have := rl_words
    have := r.nodes_pos
    simp only [sumLen] at h3
    simp only [Rw.toD, PyData.showable, PyData.showableAll, PyData.shown, PyData.shownAll, Rw.nodes, h.1, Bool.and_self, true_and]
    omega
theorem Rw.showL_ok : ∀ rs : List Rw, PyData.showableAll (Rw.toDs rs) = true ∧ sumLen (PyData.shownAll (Rw.toDs rs)) ≤ 30 * Rw.nodesL rs
  | [] => by simp only [Rw.toDs, PyData.showableAll, PyData.shownAll, sumLen, Rw.nodesL]; exact ⟨trivial, Nat.le_refl _⟩
  | r :: rs => by
    have h := Rw.show_ok r
    have h2 := Rw.showL_ok rs
    have := r.nodes_pos
    simp only [Rw.toDs, PyData.showableAll, PyData.shownAll, sumLen, Rw.nodesL, h.1, h2.1, Bool.and_self, true_and]
    omega
end
theorem Rw.okShow (r : Rw) (h : r.dep ≤ 32) (hn : r.nodes ≤ 100000) : DL.okShow r.toD := by
  have h2 := r.show_ok
  have e := sizeLine_eq
  refine ⟨⟨h2.1, r.sh h⟩, ?_⟩
  omega
theorem Rw.okShowL (rs : List Rw) (h : Rw.depL rs ≤ 31) (hn : Rw.nodesL rs ≤ 100000) : DL.okShow (.list (rs.map Rw.toD)) := by
  have h2 := Rw.showL_ok rs
  have h3 := list_len (PyData.shownAll (Rw.toDs rs))
  have e := sizeLine_eq
  refine ⟨⟨?_, Rw.shL rs h⟩, ?_⟩
  · rw [← Rw.toDs_eq]; simp only [PyData.showable]; exact h2.1
  · rw [← Rw.toDs_eq]; simp only [PyData.shown]; omega
theorem okShow_non : DL.okShow .none := by
  refine ⟨⟨rfl, sh_non⟩, ?_⟩
  decide +kernel
/-! ### loops by what holds at each turn -/
theorem forW_inv {g : WG} {wb : WS} {E : ED} (I : List PyData → SD → Prop) (h0 : ∀ sd, I [] sd → E.nx sd) (h1 : ∀ d ds sd (k : SD → Prop), (∀ sd, I ds sd → k sd) → I (d :: ds) sd → g d sd fun sd1 => wb (loopE E k) sd1) :
    ∀ ds sd, I ds sd → forW g wb E ds sd
  | [], sd, h => h0 sd h
  | d :: ds, sd, h => h1 d ds sd _ (fun sd h => forW_inv I h0 h1 ds sd h) h
/-- one of one, in order -/
inductive Al (P : PyData → PyData → Prop) : List PyData → List PyData → Prop
  | nil : Al P [] []
  | cons {d e : PyData} {ds es : List PyData} : P d e → Al P ds es → Al P (d :: ds) (e :: es)
theorem lcW_each {g : WG} {t : WB} {we : WR} {sd : SD} (P : PyData → PyData → Prop) : ∀ (ds : List PyData) (Q : List PyData → Prop),
    (∀ d ∈ ds, ∀ (A : PyData → Prop) (B : Prop), (∀ x, P d x → A x) → g d sd fun sd2 => t sd2 fun b => if b = true then we sd2 (fun z => A z.dat) else B) →
    (∀ out, Al P ds out → Q out) → lcW g t we sd ds Q
  | [], Q, _, q => q [] .nil
  | d :: ds, Q, h, q => by
    refine h d List.mem_cons_self (fun x => lcW g t we sd ds fun out => Q (x :: out)) _ fun x px => ?_
    exact lcW_each P ds _ (fun e m => h e (List.mem_cons_of_mem _ m)) fun out ho => q _ (.cons px ho)
theorem lcW_map {g : WG} {t : WB} {we : WR} {sd : SD} (f : PyData → PyData) : ∀ (ds : List PyData) (Q : List PyData → Prop),
    (∀ d ∈ ds, ∀ (A : PyData → Prop) (B : Prop), A (f d) → g d sd fun sd2 => t sd2 fun b => if b = true then we sd2 (fun z => A z.dat) else B) →
    Q (ds.map f) → lcW g t we sd ds Q
  | [], Q, _, q => q
  | d :: ds, Q, h, q => by
    refine h d List.mem_cons_self (fun x => lcW g t we sd ds fun out => Q (x :: out)) _ ?_
    exact lcW_map f ds _ (fun e m => h e (List.mem_cons_of_mem _ m)) q
theorem kt_tuple : kitB "tuple" "str" = some false := by decide +kernel
theorem kt_str : kitB "str" "str" = some true := by decide +kernel
theorem tr_bool (b : Bool) : truD (RV.va (.bool b)).dat = some b := by cases b <;> rfl
end DL

set_option Elab.async false
set_option linter.all false
set_option maxRecDepth 100000
set_option maxHeartbeats 4000000
/-! the text of a row is a text -/
namespace DL
open PySem PySem.Spec PyProof.Rows L2
variable [Tb]
theorem ok_app {s t : Str} (h1 : PyData.strOk s = true) (h2 : PyData.strOk t = true) : PyData.strOk (s ++ t) = true := by
  show (s.cps ++ t.cps).all (fun x => decide (x < 1114112)) = true
  rw [Array.all_append]
  exact Bool.and_eq_true_iff.mpr ⟨h1, h2⟩
theorem okr_let : ∀ c : Fin 26, PyData.strOk (reprText (⟨#[97 + c.val]⟩ : Str)) = true := by decide +kernel
theorem okr_words : PyData.strOk (reprText sJ) = true ∧ PyData.strOk (reprText sR) = true ∧ PyData.strOk (reprText sL) = true ∧ PyData.strOk (reprText sM) = true := by decide +kernel
def okAll : List Str → Prop
  | [] => True
  | t :: ts => PyData.strOk t = true ∧ okAll ts
theorem ok_sep : PyData.strOk (Str.ofString ", ") = true := by decide +kernel
theorem ok_join : ∀ ts : List Str, okAll ts → PyData.strOk ((Str.ofString ", ").join ts) = true
  | [], _ => by simp only [Str.join]; decide +kernel
  | [t], h => by simp only [Str.join]; exact h.1
  | t :: u :: ts, h => by
    have := ok_join (u :: ts) h.2
    simp only [Str.join] at this ⊢
    exact ok_app (ok_app h.1 ok_sep) this
theorem ok_tup {ts : List Str} (h : okAll ts) : PyData.strOk (tupleText ts) = true := by
  unfold tupleText
  refine ok_app (ok_app (by decide +kernel) (ok_join ts h)) ?_
  split
  · decide +kernel
  · decide +kernel
theorem ok_from : ∀ (ts : List Str) (k : Nat) (s : Str), PyData.strOk s = true → okAll ts → PyData.strOk (textFrom k s ts) = true
  | [], k, s, hs, _ => by simp only [textFrom]; exact hs
  | t :: ts, k, s, hs, h => by
    simp only [textFrom]
    refine ok_from ts _ _ (ok_app (ok_app hs ?_) h.1) h.2
    split
    · decide +kernel
    · decide +kernel
theorem ok_lst {ts : List Str} (h : okAll ts) : PyData.strOk (listText ts) = true := by
  unfold listText
  exact ok_app (ok_from ts _ _ (by decide +kernel) h) (by decide +kernel)
mutual
theorem Rw.ok_shown : ∀ r : Rw, PyData.strOk r.toD.shown = true
  | .let c => by simp only [Rw.toD, PyData.shown]; exact okr_let c
  | .join rs => by
    simp only [Rw.toD, PyData.shown, PyData.shownAll]
    exact ok_tup ⟨okr_words.1, ok_tup (Rw.ok_shownL rs), trivial⟩
  | .mix rs => by
    simp only [Rw.toD, PyData.shown, PyData.shownAll]
    exact ok_tup ⟨okr_words.2.2.2, ok_tup (Rw.ok_shownL rs), trivial⟩
  | .right r => by
    simp only [Rw.toD, PyData.shown, PyData.shownAll]
    exact ok_tup ⟨okr_words.2.1, Rw.ok_shown r, trivial⟩
  | .left r => by
    simp only [Rw.toD, PyData.shown, PyData.shownAll]
    exact ok_tup ⟨okr_words.2.2.1, Rw.ok_shown r, trivial⟩
theorem Rw.ok_shownL : ∀ rs : List Rw, okAll (PyData.shownAll (Rw.toDs rs))
  | [] => by simp only [Rw.toDs, PyData.shownAll]; trivial
  | r :: rs => by
    simp only [Rw.toDs, PyData.shownAll]
    exact ⟨Rw.ok_shown r, Rw.ok_shownL rs⟩
end
theorem Rw.ok_shownLi (rs : List Rw) : PyData.strOk (PyData.list (rs.map Rw.toD)).shown = true := by
  rw [← Rw.toDs_eq]; simp only [PyData.shown]; exact ok_lst (Rw.ok_shownL rs)
theorem ok_shownN : PyData.strOk PyData.none.shown = true := by decide +kernel
end DL

set_option Elab.async false
set_option linter.all false
set_option maxRecDepth 100000
set_option maxHeartbeats 400000
/-! more rules: not, in -/
namespace DL
open PySem PySem.Spec PyProof.Rows L2
variable [Tb]
section
variable {X : Cx} {e a b : Expr} {m m1 m2 : Md} {pos p : Pos}
def wNotV (w : WR) : WR := fun sd Q => w sd fun r => match r with
  | .va (.bool c) => Q (.va (.bool (!c)))
  | _ => False
theorem evr_not {w : WR} (h : EvR X a w) : EvR X (.UnaryOp .Not a pos) (wNotV w) where
  pe := PE.weak (pe_not h.pe) fun σ H Q ⟨c, sd, os, hk, r, q⟩ => ⟨c, sd, os, hk, r, h.mo _ _ _ (fun z k v H1 x1 rv => by
    match z, k, rv with
    | .va (.bool t), k, rv =>
      have rv : Dx _ _ v (.bool t) := rv
      cases rv
      exact ⟨t, rfl, k _ H1 x1 (.bl _)⟩) q⟩
  mo := fun sd Q Q' k q => h.mo _ _ _ (fun z y => by
    match z, y with
    | .va (.bool t), y => exact k _ y) q
/-! ### x in a list or a tuple of plain things -/
def flatD : PyData → Bool
  | .none => true
  | .bool _ => true
  | .int _ => true
  | .str _ => true
  | _ => false
def rdIn (neg : Bool) : RD2 := fun d e Q => match e with
  | .list ys => (flatD d = true ∧ ys.all flatD = true) ∧ Q (.va (.bool (if neg then !(ys.any fun y => y.eqv d) else ys.any fun y => y.eqv d)))
  | .tuple ys => (flatD d = true ∧ ys.all flatD = true) ∧ Q (.va (.bool (if neg then !(ys.any fun y => y.eqv d) else ys.any fun y => y.eqv d)))
  | .dict es => isKey d = true ∧ Q (.va (.bool (if neg then !(lookD es d).isSome else (lookD es d).isSome)))
  | _ => False
theorem rdIn_mo {neg : Bool} : Mo2 (rdIn neg) := by
  intro d e Q Q' k q
  unfold rdIn at q ⊢
  split at q <;> first | exact ⟨q.1, k _ q.2⟩ | exact q.elim
theorem Dx.flat {K : PySem.W.Frag} {H : Hp} {v : V} {d : PyData} (h : Dx K H v d) (f : flatD d = true) : flatV v = true := by
  cases h <;> first | rfl | exact absurd f Bool.false_ne_true
theorem eqV_data {K : PySem.W.Frag} {H : Hp} {x y : V} {d e : PyData} (h1 : Dx K H x d) (h2 : Dx K H y e) (f1 : flatD d = true) (f2 : flatD e = true) : eqV x y = d.eqv e := by
  cases h1 <;> cases h2 <;> first
    | exact absurd f1 Bool.false_ne_true
    | exact absurd f2 Bool.false_ne_true
    | (simp only [eqV, PyData.eqv]; done)
    | (simp only [eqV, PyData.eqv]; rfl)
    | (simp [eqV, PyData.eqv]; done)

theorem flats {K : PySem.W.Frag} {H : Hp} : ∀ {vs : List V} {ds : List PyData}, DxAll K H vs ds → ds.all flatD = true → vs.all flatV = true
  | _, _, .nil, _ => rfl
  | _, _, .cons h t, f => by
    rw [List.all_cons, Bool.and_eq_true] at f
    rw [List.all_cons, h.flat f.1, flats t f.2]
    rfl
theorem inV_data {K : PySem.W.Frag} {H : Hp} {x : V} {d : PyData} (h : Dx K H x d) (f : flatD d = true) : ∀ {vs : List V} {ds : List PyData}, DxAll K H vs ds → ds.all flatD = true → inV x vs = ds.any fun y => y.eqv d
  | _, _, .nil, _ => rfl
  | _, _, .cons g t, q => by
    rw [List.all_cons, Bool.and_eq_true] at q
    have e := inV_data h f t q.2
    unfold inV at e ⊢
    rw [List.any_cons, List.any_cons, eqV_data g h q.1 f, e]
theorem shFlat {K : PySem.W.Frag} {S O : List Addr} {H : Hp} {x : V} {d : PyData} (h : DM .sh K S O H x d) (f : flatD d = true) : Dx K (hid O H) x d := by
  cases d with
  | list _ => exact absurd f Bool.false_ne_true
  | dict _ => exact absurd f Bool.false_ne_true
  | _ => exact h
def hasD (es : List (PyData × PyData)) (d : PyData) : Bool := (lookD es d).isSome
def rInD (neg : Bool) : R2 := fun x y H Q => ∃ (a : Addr) (kvs : List (Key × V)) (k : Key), y = .ref a ∧ x = kV k ∧ H a = some (.dK kvs) ∧ Q (.bl (if neg then !(valV kvs k).isSome else (valV kvs k).isSome)) H
theorem op_in_dict (hu : X.A.units + 1 < cLine) : OpR X (compareOp .In) (rInD false) := by
  intro pins s σ H x y v u Q I rx ry h
  obtain ⟨a, kvs, k, rfl, rfl, e, q⟩ := h
  cases ry
  exact d_in hu I (DGet.k e) rx fun s' I' => ⟨.bl _, H, I', rfl, q⟩
theorem op_notIn_dict (hu : X.A.units + 1 < cLine) : OpR X (compareOp .NotIn) (rInD true) := by
  intro pins s σ H x y v u Q I rx ry h
  obtain ⟨a, kvs, k, rfl, rfl, e, q⟩ := h
  cases ry
  exact d_notIn hu I (DGet.k e) rx fun s' I' => ⟨.bl _, H, I', rfl, q⟩
theorem br_in {K : PySem.W.Frag} {neg : Bool} : Br2 K .sh .sh (fun x y H Q => rIn K neg x y H Q ∨ rInD neg x y H Q) (rdIn neg) := by
  intro S O H x y d e Q hs hO hx hy q
  unfold rdIn at q
  split at q
  · obtain ⟨⟨f1, f2⟩, q⟩ := q
    obtain ⟨a, us, rfl, h1, h2⟩ := hy
    have dx := shFlat hx f1
    exact .inl ⟨a, us, rfl, .inl (.inl (.inl (hid_some h1).2)), dx.flat f1, flats h2 f2, by rw [inV_data dx f1 h2 f2]; exact q _ H (Same.refl H) (.bl _)⟩
  · obtain ⟨⟨f1, f2⟩, q⟩ := q
    obtain ⟨a, us, rfl, h1, h2⟩ := shTup hy
    have dx := shFlat hx f1
    exact .inl ⟨a, us, rfl, .inr (SqT.same hid_sub h1), dx.flat f1, flats h2 f2, by rw [inV_data dx f1 h2 f2]; exact q _ H (Same.refl H) (.bl _)⟩
  · rename_i es
    obtain ⟨kb, q⟩ := q
    obtain ⟨k, rfl⟩ := isKey_get kb
    obtain ⟨a, o, rfl, h1, h2⟩ := hy
    have hx : Dx K (hid O H) x (keyD k) := by cases k <;> exact hx
    obtain ⟨kvs, rfl, h3⟩ := h2.look k
    have e : (valV kvs k).isSome = (lookD es (keyD k)).isSome := by
      rcases h3 with ⟨h3, h4⟩ | ⟨v, d, h3, h4, _⟩
      · rw [h3, h4]; rfl
      · rw [h3, h4]; rfl
    exact .inr ⟨a, kvs, k, rfl, dx_key hx, (hid_some h1).2, by rw [e]; exact q _ H (Same.refl H) (.bl _)⟩
  · exact q.elim
theorem un1 (hu : X.A.units + 64 < cLine) : X.A.units + 1 < cLine := Nat.lt_of_le_of_lt (by omega) hu
theorem od_in (hu : X.A.units + 64 < cLine) : OpD X (compareOp .In) .sh .sh (rdIn false) := ⟨⟨_, op_in_seq.or (op_in_dict (un1 hu)), br_in⟩, rdIn_mo⟩
/-! ### a op1 b op2 c -/
def wChain (rd rd' : RD2) (wa wb wc : WD) : WR := fun sd Q => wa sd fun d => wb sd fun e => rd d e fun z => match z with
  | .va (.bool t) => if t = true then wc sd fun g => rd' e g Q else Q (.va (.bool false))
  | _ => False
theorem wChain_mo {rd rd' : RD2} {wa wb wc : WD} {m3 : Md} {c : Expr} (h : Mo2 rd) (h' : Mo2 rd') (ha : Ev m1 X a wa) (hb : Ev m2 X b wb) (hc : Ev m3 X c wc) :
    ∀ sd (Q Q' : RV → Prop), (∀ r, Q r → Q' r) → wChain rd rd' wa wb wc sd Q → wChain rd rd' wa wb wc sd Q' :=
  fun sd Q Q' k q => ha.mo _ _ _ (fun d z => hb.mo _ _ _ (fun e z => h d e _ _ (fun y q => by
    match y, q with
    | .va (.bool true), q => exact hc.mo _ _ _ (fun g z => h' e g _ _ k z) q
    | .va (.bool false), q => exact k _ q) z) z) q
theorem chain_run {rd rd' : RD2} {r r' : R2} {wa wb wc : WD} {m3 : Md} {c : Expr} {K : PySem.W.Frag} (eK : K = X.K) (h1 : Br2 X.K m1 m2 r rd) (h2 : Br2 X.K m2 m3 r' rd') (hm : Mo2 rd) (hm' : Mo2 rd') (ha : Ev m1 X a wa) (hb : Ev m2 X b wb) (hc : Ev m3 X c wc)
    {σ : L2.St} {H : Hp} {Q : VK} (q : tR X.K (wChain rd rd' wa wb wc) σ H Q) : tChain r r' (tM m1 X.K wa) (tM m2 X.K wb) (tM m3 X.K wc) σ H Q := by
  obtain ⟨cd, sd, os, hk, rr, q⟩ := q
  refine ⟨cd, sd, os, hk, rr, ha.mo _ _ _ (fun d k v H1 x1 d1 => ⟨cd, sd, os, hk, rr.grow x1, hb.mo _ _ _ (fun e k2 u H2 x2 d2 => ?_) k⟩) q⟩
  have x12 := x1.trans x2
  have t12 : ∀ a ∈ OO cd os, H2 a ≠ none := fun a m => (rr.grow x12).there m
  refine h1 cd.S (OO cd os) H2 v u d e _ rr.sO t12 (DM.grow rr.sO x2 d1) d2 (hm _ _ _ _ (fun z kz v' H' s rv => ?_) k2)
  have x3 := x12.trans (Ext.of s)
  match z, kz, rv with
  | .va (.bool true), kz, rv =>
    have rv : Dx _ _ v' (.bool true) := rv
    cases rv
    refine ⟨true, rfl, ?_⟩
    refine ⟨cd, sd, os, hk, rr.grow x3, hc.mo _ _ _ (fun g k4 w' H4 x4 d4 => ?_) kz⟩
    have x34 := x3.trans x4
    refine h2 cd.S (OO cd os) H4 u w' e g Q rr.sO (fun a m => (rr.grow x34).there m) (DM.grow rr.sO ((Ext.of s).trans x4) d2) d4 (hm' _ _ _ _ (fun y ky v5 H5 s5 rv5 => ?_) k4)
    exact ky v5 H5 (x34.trans (Ext.of s5)) (RvR.from rr.sO (fun a m => (rr.grow x34).there m) x34 rv5)
  | .va (.bool false), kz, rv =>
    have rv : Dx _ _ v' (.bool false) := rv
    cases rv
    exact ⟨false, rfl, kz _ _ x3 (.bl _)⟩
theorem evr_chain {op op' : CmpOp} {rd rd' : RD2} {wa wb wc : WD} {m3 : Md} {c : Expr} (ho : OpD X (compareOp op) m1 m2 rd) (ho' : OpD X (compareOp op') m2 m3 rd') (ha : Ev m1 X a wa) (hb : Ev m2 X b wb) (hc : Ev m3 X c wc)
    (hm : lastMarks [op, op'] [b, c] = false := by with_unfolding_all rfl) : EvR X (.Compare a [op, op'] [b, c] pos) (wChain rd rd' wa wb wc) where
  pe := by
    obtain ⟨r, h1, h2⟩ := ho.ex
    obtain ⟨r', h1', h2'⟩ := ho'.ex
    exact PE.weak (pe_chain h1 h1' ha.pe hb.pe hc.pe hm) fun σ H Q q => chain_run rfl h2 h2' ho.mo ho'.mo ha hb hc q
  mo := wChain_mo ho.mo ho'.mo ha hb hc
theorem evt_chain {op op' : CmpOp} {rd rd' : RD2} {wa wb wc : WD} {m3 : Md} {c : Expr} (ho : OpD X (compareOp op) m1 m2 rd) (ho' : OpD X (compareOp op') m2 m3 rd') (ha : Ev m1 X a wa) (hb : Ev m2 X b wb) (hc : Ev m3 X c wc)
    (hm : lastMarks [op, op'] [b, c] = false := by with_unfolding_all rfl) : EvT X (.Compare a [op, op'] [b, c] pos) (wBo (wChain rd rd' wa wb wc)) where
  pt := by
    obtain ⟨r, h1, h2⟩ := ho.ex
    obtain ⟨r', h1', h2'⟩ := ho'.ex
    refine PT.weak (pt_chain h1 h1' ha.pe hb.pe hc.pe hm) fun σ H Q q => ?_
    refine chain_run rfl h2 h2' ho.mo ho'.mo ha hb hc ?_
    obtain ⟨cd, sd, os, hk, rr, q⟩ := q
    refine ⟨cd, sd, os, hk, rr, wChain_mo ho.mo ho'.mo ha hb hc _ _ _ (fun z kz v H' x rv => ?_) q⟩
    match z, kz, rv with
    | .va (.bool t), kz, rv =>
      have rv : Dx _ _ v (.bool t) := rv
      cases rv
      exact ⟨t, rfl, kz H' x⟩
  mo := fun sd Q Q' k q => wChain_mo ho.mo ho'.mo ha hb hc _ _ _ (fun z y => by
    match z, y with
    | .va (.bool t), y => exact k _ y) q
/-! ### texts in order -/
def rdStr (g : Str → Str → Bool) : RD2 := fun d e Q => match d, e with
  | .str i, .str j => Q (.va (.bool (g i j)))
  | _, _ => False
theorem rdStr_mo {g : Str → Str → Bool} : Mo2 (rdStr g) := by
  intro d e Q Q' k q
  unfold rdStr at q ⊢
  split at q
  · exact k _ q
  · exact q.elim
theorem od_leS : OpD X (compareOp .LtE) .sh .sh (rdStr fun i j => !decide (j.cps.toList < i.cps.toList)) where
  ex := ⟨_, op_le_str, fun S O H x y d e Q _ _ hx hy q => by
    unfold rdStr at q
    split at q
    · exact ⟨_, _, shStr hx, shStr hy, q _ H (Same.refl H) (.bl _)⟩
    · exact q.elim⟩
  mo := rdStr_mo
theorem od_ltS : OpD X (compareOp .Lt) .sh .sh (rdStr fun i j => decide (i.cps.toList < j.cps.toList)) where
  ex := ⟨_, op_lt_str, fun S O H x y d e Q _ _ hx hy q => by
    unfold rdStr at q
    split at q
    · exact ⟨_, _, shStr hx, shStr hy, q _ H (Same.refl H) (.bl _)⟩
    · exact q.elim⟩
  mo := rdStr_mo
end
end DL

set_option Elab.async false
set_option linter.all false
set_option maxRecDepth 100000
set_option maxHeartbeats 400000
/-! a def handed over, and called by its name there -/
namespace DL
open PySem PySem.Spec PyProof.Rows L2
variable [Tb]
section
variable {X : Cx} {e a b : Expr} {es : List Expr} {m m1 m2 : Md} {pos p : Pos} {x : Str} {k n : Nat} {f : Addr} {fd : FuncData} {ps : List Str} {fs : FSp} {wa : WA}
def wFn (f : Addr) (ws : WA) : WA := fun sd Q => ws sd fun ds => Q (.fn f :: ds)
/-- a def of the module's as an argument -/
theorem eva_fn {ws : WA} (hm : X.mg x = some (.ref f)) (t : EvA m X es ws) (hg : Gl X x := by rfl) (hdb : (x == ("__debug__" : Str)) = false := by decide)
    (hs : starEach (.Name x pos :: es) X.env = (false, eval (.Name x pos) X.env) :: starEach es X.env := by rfl) : EvA m X (.Name x pos :: es) (wFn f ws) where
  pa := PA.weak (pa_cons (pe_glob (v := .ref f) hg hm rfl hdb) t.pa hs) fun σ H Q ⟨c, sd, os, hk, r, q⟩ =>
    ⟨c, sd, os, hk, r, t.mo _ _ _ (fun ds k2 vs H2 x2 d2 => k2 _ H2 x2 (.fn d2)) q⟩
  mo := fun sd Q Q' k q => t.mo _ _ _ (fun ds z => k _ z) q
/-- slot i holds the def at f -/
def wCallL (i : Nat) (f : Addr) (n : Nat) (fs : FSp) (wa : WA) : WR := fun sd Q => getS sd i = .fn f ∧ wa sd fun as => as.length = n ∧ fs as Q
theorem pe_callGL {CX : CXT} {sp : Sp} {E : XK} {i : Nat} {t : TA} (F : FnG X.prog X.w X.K X.mg X.base CX k f fd ps sp) (hr : RmG k X.A) (hN : X.N[i]? = some x) (hv : Vis X.env.scope x)
    (hk : PySem.W.keepIn X.K (.ref f) = true) (hb : Binds X.K fd ps []) (hx : Passes CX X E) (ha : PA X (e :: es) t)
    (hdb : (x == ("__debug__" : Str)) = false := by decide) (hcd : (x == ("__classdict__" : Str)) = false := by decide)
    (he : starEach (e :: es) X.env = (false, eval e X.env) :: starEach es X.env := by rfl) (hpl : (backTo pos (starEach es X.env)).any (·.1) = false := by rfl) :
    PE X (.Call (.Name x p) (e :: es) [] pos) (fun σ H Q => σ[i]? = some (some (.ref f)) ∧ t σ H fun vs H1 => sp vs H1 Q E) := by
  refine ⟨fun pins s σ H Q I h => ?_⟩
  obtain ⟨g1, g2⟩ := h
  refine wpAny_Call_Name_kw (thn ((pe_var (pos := p) hN hv hdb hcd).run pins s σ H (fun v H1 => v = .ref f ∧ H1 = H) I ⟨.ref f, g1, rfl, rfl⟩) fun u s1 ⟨v, H1, I1, r1, q1⟩ => ?_)
  obtain ⟨rfl, rfl⟩ := q1
  cases r1
  apply PySem.W.callWith_K (h₀ := X.base) I1.ok.mod.kin hk _ he hpl
  apply thn (ha.run pos pins s1 σ _ _ I1 g2)
  rintro us s2 ⟨vs, H2, I2, r, q⟩
  exact ⟨I2.kIn, run_G F hr hb hx I2 r q⟩
theorem evr_callL (i : Nat) (F : FnG X.prog X.w X.K X.mg X.base CX0 k f fd ps (PSp X.K n fs)) (hmo : MoF fs) (hr : RmG k X.A)
    (hk : PySem.W.keepIn X.K (.ref f) = true) (hb : Binds X.K fd ps []) (ha : EvA .cl X (e :: es) wa) (hN : X.N[i]? = some x := by rfl)
    (hv : Vis X.env.scope x := by first | exact Or.inl rfl | exact Or.inr (Or.inl rfl) | exact Or.inr (Or.inr rfl))
    (hdb : (x == ("__debug__" : Str)) = false := by decide) (hcd : (x == ("__classdict__" : Str)) = false := by decide)
    (he : starEach (e :: es) X.env = (false, eval e X.env) :: starEach es X.env := by rfl)
    (hpl : (backTo pos (starEach es X.env)).any (·.1) = false := by rfl) :
    EvR X (.Call (.Name x p) (e :: es) [] pos) (wCallL i f n fs wa) where
  pe := PE.weak (pe_callGL F hr hN hv hk hb pass0 ha.pa hdb hcd he hpl) fun σ H Q ⟨c, sd, os, hk, r, g, q⟩ => by
    obtain ⟨v, oa, h1, h2, h3, rfl⟩ := r.at_ g (by intro z; cases z)
    exact ⟨h1, c, sd, os, hk, r, ha.mo _ _ _ (fun as kq vs H1 x1 d1 => ⟨c.S, OO c os, as, (r.grow x1).srcNow, r.sO, (r.grow x1).ocNow, d1, kq.1, hmo _ _ _ (fun z kz v H' x2 rv =>
      kz v H' (x1.trans x2) (RvR.from r.sO (fun a m => (r.grow x1).there m) x1 rv)) kq.2⟩) q⟩
  mo := fun sd Q Q' k q => ⟨q.1, ha.mo _ _ _ (fun as z => ⟨z.1, hmo _ _ _ k z.2⟩) q.2⟩
end
end DL

set_option Elab.async false
set_option linter.all false
set_option maxRecDepth 100000
set_option maxHeartbeats 400000
/-! more rules: is True, not in, sum, the signs of a text, f(xs.pop()) by a name that is handed over -/
namespace DL
open PySem PySem.Spec PyProof.Rows L2
variable [Tb]
section
variable {X : Cx} {e a b : Expr} {es : List Expr} {m m1 m2 : Md} {pos p : Pos} {x : Str} {k n : Nat} {f : Addr} {fd : FuncData} {ps : List Str} {fs : FSp} {wa : WA}
theorem op_isB : OpR X (compareOp .Is) (fun x y H Q => ∃ b c, x = .bl b ∧ y = .bl c ∧ Q (.bl (b == c)) H) := by
  rintro pins s σ H x y v u Q I rx ry ⟨b, c, rfl, rfl, q⟩
  cases rx
  cases ry
  have e : ((Value.bool b == Value.bool c) : Bool) = (b == c) := by cases b <;> cases c <;> rfl
  show wpAny _ _ (do let z ← (pure (Value.bool b == Value.bool c) : Sem Bool); pure (Value.bool z)) _ _ _
  rw [e]
  exact wpAny_bind (wpAny_pure (wpAny_pure ⟨.bl (b == c), H, I, rfl, q⟩))
theorem op_isnotB : OpR X (compareOp .IsNot) (fun x y H Q => ∃ b c, x = .bl b ∧ y = .bl c ∧ Q (.bl (!(b == c))) H) := by
  rintro pins s σ H x y v u Q I rx ry ⟨b, c, rfl, rfl, q⟩
  cases rx
  cases ry
  have e : ((Value.bool b == Value.bool c) : Bool) = (b == c) := by cases b <;> cases c <;> rfl
  show wpAny _ _ (do let z ← (pure (Value.bool b == Value.bool c) : Sem Bool); pure (Value.bool !z)) _ _ _
  rw [e]
  exact wpAny_bind (wpAny_pure (wpAny_pure ⟨.bl (!(b == c)), H, I, rfl, q⟩))
def rdIsB (neg : Bool) : RD2 := fun d e Q => match d, e with
  | .bool i, .bool j => Q (.va (.bool (if neg then !(i == j) else i == j)))
  | _, _ => False
theorem rdIsB_mo {neg : Bool} : Mo2 (rdIsB neg) := by
  intro d e Q Q' k q
  unfold rdIsB at q ⊢
  split at q
  · exact k _ q
  · exact q.elim
theorem od_isB : OpD X (compareOp .Is) .sh .sh (rdIsB false) where
  ex := ⟨_, op_isB, fun S O H x y d e Q _ _ hx hy q => by
    unfold rdIsB at q
    split at q
    · exact ⟨_, _, shBl hx, shBl hy, q _ H (Same.refl H) (.bl _)⟩
    · exact q.elim⟩
  mo := rdIsB_mo
theorem od_isnotB : OpD X (compareOp .IsNot) .sh .sh (rdIsB true) where
  ex := ⟨_, op_isnotB, fun S O H x y d e Q _ _ hx hy q => by
    unfold rdIsB at q
    split at q
    · exact ⟨_, _, shBl hx, shBl hy, q _ H (Same.refl H) (.bl _)⟩
    · exact q.elim⟩
  mo := rdIsB_mo
theorem od_notIn (hu : X.A.units + 64 < cLine) : OpD X (compareOp .NotIn) .sh .sh (rdIn true) := ⟨⟨_, op_notIn_seq.or (op_notIn_dict (un1 hu)), br_in⟩, rdIn_mo⟩
/-! ### sum -/
def dSum (d : PyData) (Q : RV → Prop) : Prop := match d with
  | .list xs => ∃ ns : List Int, xs = ns.map PyData.int ∧ Q (.va (.int ns.sum))
  | _ => False
theorem all_ints {K : PySem.W.Frag} {H : Hp} : ∀ {vs : List V} {ns : List Int}, DxAll K H vs (ns.map PyData.int) → vs = ns.map V.int
  | _, [], .nil => rfl
  | _, n :: ns, .cons h t => by
    cases h
    rw [all_ints t]
    rfl
theorem cd_sum (hc : X.calm = true) : CallD X (.builtin "sum") .sh (rd1 dSum) where
  ex := ⟨_, cr_sum hc, rd1_br fun S O H x d Q hs hO hd q => by
    unfold dSum at q
    split at q
    · obtain ⟨ns, rfl, q⟩ := q
      obtain ⟨a, us, rfl, h1, h2⟩ := hd
      have e := all_ints h2
      subst e
      exact ⟨a, ns, rfl, .inl (.inl (hid_some h1).2), q _ H (Same.refl H) (.int _)⟩
    · exact q.elim⟩
  mo := rd1_mo fun d Q Q' k q => by
    unfold dSum at q ⊢
    split at q
    · obtain ⟨ns, e, q⟩ := q
      exact ⟨ns, e, k _ q⟩
    · exact q.elim
/-! ### the signs of a text -/
def signV (z : Str) : List V := z.cps.toList.map fun c => .str ⟨#[c]⟩
def signD (z : Str) : List PyData := z.cps.toList.map fun c => .str ⟨#[c]⟩
theorem sign_dx {K : PySem.W.Frag} {H : Hp} : ∀ cs : List Nat, DxAll K H (cs.map fun c => V.str ⟨#[c]⟩) (cs.map fun c => PyData.str ⟨#[c]⟩)
  | [] => .nil
  | c :: cs => .cons (.str _) (sign_dx cs)
theorem sign_vals : ∀ (cs : List Nat) (vs : List Value), vs.length = cs.length → (∀ (j : Nat) (v : Value), vs[j]? = some v → ∃ (c : Nat) (u : Tok), cs[j]? = some c ∧ v = Value.str ⟨#[c]⟩ u) → Vals (cs.map fun c => V.str ⟨#[c]⟩) vs
  | [], [], _, _ => .nil
  | [], _ :: _, h, _ => by cases h
  | _ :: _, [], h, _ => by cases h
  | c :: cs, v :: vs, h, k => by
    obtain ⟨c', u, e1, e2⟩ := k 0 v rfl
    cases e1
    exact .cons ⟨u, e2⟩ (sign_vals cs vs (Nat.succ.inj h) fun j w e => k (j + 1) w e)
theorem sign_ok {z : Str} {acc : Array Value} (h : ItemsOf (SignAt z) acc z.cps.size) : Vals (signV z) acc.toList := by
  refine sign_vals _ _ (by rw [Array.length_toList, Array.length_toList]; exact h.1) fun j v e => ?_
  rw [Array.getElem?_toList] at e
  obtain ⟨c, u, e1, e2⟩ := h.2 j v e
  exact ⟨c, u, by rw [Array.getElem?_toList]; exact e1, e2⟩
theorem call_list_txt (hc : X.calm = true) : CallR X (.type "list") (fun xs H Q => ∃ z, xs = [.str z] ∧ z.length ≤ sizeLine ∧ ∀ l, H l = none → Q (.ref l) (upd H l (.lst (signV z)))) := by
  rintro pins s σ H xs us Q I r ⟨z, rfl, hz, q⟩
  obtain ⟨u, rfl, rx⟩ := vals1 r
  obtain ⟨t, rfl⟩ := rx
  refine call_list_str (I.ok.hd hc) z t (fun h' tk acc c' kp e it => ?_) hz
  refine ⟨.ref s.heap.objs.size, upd H s.heap.objs.size (.lst (signV z)), Inv.laid I kp (Nat.le_refl _) ⟨?_, acc.toList, c', sign_ok it, by rw [Array.toArray_toList]; exact e⟩, rfl, q _ (HOk.fresh I.hok (Nat.le_refl _))⟩
  unfold signV
  rw [List.length_map, Array.length_toList]
  exact hz
theorem call_tuple_txt (hc : X.calm = true) : CallR X (.type "tuple") (fun xs H Q => ∃ z, xs = [.str z] ∧ z.length ≤ sizeLine ∧ ∀ l, H l = none → Q (.ref l) (upd H l (.tup (signV z)))) := by
  rintro pins s σ H xs us Q I r ⟨z, rfl, hz, q⟩
  obtain ⟨u, rfl, rx⟩ := vals1 r
  obtain ⟨t, rfl⟩ := rx
  refine call_tuple_str (I.ok.hd hc) z t (fun h' tk acc kp it => ?_) hz
  have I1 := Inv.kept (t' := tk) I kp
  have new : IsTup (h'.push { cls := .type "tuple", data := .seq acc }) h'.objs.size acc.toList.toArray := by
    rw [Array.toArray_toList]
    exact IsTup.new h' acc
  refine ⟨.ref h'.objs.size, upd H h'.objs.size (.tup (signV z)), Inv.laid (s := { heap := h', gens := s.gens, drawn := s.drawn, toks := tk, os := s.os }) (h' := h'.push { cls := .type "tuple", data := .seq acc }) I1 (fun b o e => Heap.get?_push_of_some _ e) (Nat.le_refl _) ⟨?_, acc.toList, sign_ok it, new⟩, rfl, q _ (HOk.fresh I1.hok (Nat.le_refl _))⟩
  unfold signV
  rw [List.length_map, Array.length_toList]
  exact hz
def dListS (d : PyData) (Q : RV → Prop) : Prop := match d with
  | .str z => z.length ≤ sizeLine ∧ Q (.fr (signD z))
  | _ => False
def dTupleS (d : PyData) (Q : RV → Prop) : Prop := match d with
  | .str z => z.length ≤ sizeLine ∧ Q (.va (.tuple (signD z)))
  | _ => False
theorem cd_listS (hc : X.calm = true) : CallD X (.type "list") .sh (rd1 dListS) where
  ex := ⟨_, call_list_txt hc, rd1_br fun S O H x d Q hs hO hd q => by
    unfold dListS at q
    split at q
    · exact ⟨_, by rw [shStr hd], q.1, fun p hp => q.2 _ _ (same_new hp) (rv_lst hp (sign_dx _))⟩
    · exact q.elim⟩
  mo := rd1_mo fun d Q Q' k q => by
    unfold dListS at q ⊢
    split at q <;> first | exact ⟨q.1, k _ q.2⟩ | exact q.elim
theorem cd_tupleS (hc : X.calm = true) : CallD X (.type "tuple") .sh (rd1 dTupleS) where
  ex := ⟨_, call_tuple_txt hc, rd1_br fun S O H x d Q hs hO hd q => by
    unfold dTupleS at q
    split at q
    · exact ⟨_, by rw [shStr hd], q.1, fun p hp => q.2 _ _ (same_new hp) (rv_tup hp hO (sign_dx _))⟩
    · exact q.elim⟩
  mo := rd1_mo fun d Q Q' k q => by
    unfold dTupleS at q ⊢
    split at q <;> first | exact ⟨q.1, k _ q.2⟩ | exact q.elim
/-! ### name(an expression that changes lists of one's own), name holding a def that is handed over -/
theorem evm_callL1 {we : WM} (i : Nat) (F : FnG X.prog X.w X.K X.mg X.base CX0 k f fd ps (PSp X.K n fs)) (hmo : MoF fs) (hr : RmG k X.A)
    (hk : PySem.W.keepIn X.K (.ref f) = true) (hb : Binds X.K fd ps []) (h : EvM X e we) (hN : X.N[i]? = some x := by rfl)
    (hv : Vis X.env.scope x := by first | exact Or.inl rfl | exact Or.inr (Or.inl rfl) | exact Or.inr (Or.inr rfl)) (hn : 1 = n := by rfl)
    (hdb : (x == ("__debug__" : Str)) = false := by decide) (hcd : (x == ("__classdict__" : Str)) = false := by decide)
    (he : starEach [e] X.env = (false, eval e X.env) :: starEach [] X.env := by rfl)
    (hpl : (backTo pos (starEach [] X.env)).any (·.1) = false := by rfl) :
    EvM X (.Call (.Name x p) [e] [] pos) (fun sd Q => getS sd i = .fn f ∧ we sd fun z sd' => fs [.va z.dat] fun r => Q r sd') where
  pe := PE.weak (pe_callGL F hr hN hv hk hb pass0 (pa_cons h.pe pa_nil he) hdb hcd he hpl) fun σ H Q ⟨c, sd, os, hk, r, g, q⟩ => by
    obtain ⟨v, oa, h1, h2, h3, rfl⟩ := r.at_ g (by intro z; cases z)
    exact ⟨h1, c, sd, os, hk, r, h.mo _ _ _ (fun z sd' kz v H1 H' os' r1 x1 rv => by
      have r2 := r1.grow x1
      refine ⟨c.S, OO c os', [.va z.dat], r2.srcNow, r1.sO, r2.ocNow, .va (RvR.cl rv fun b m => r1.there m) .nil, hn, hmo _ _ _ (fun y ky u H2 x2 rv2 => ?_) kz⟩
      exact ky u H' H2 os' r2 x2 rv2) q⟩
  mo := fun sd Q Q' k q => ⟨q.1, h.mo _ _ _ (fun z s y => hmo _ _ _ (fun r y => k _ _ y) y) q.2⟩
/-! ### rows walked in a comprehension -/
theorem lcW_rows {α : Type} {g : WG} {t : WB} {we : WR} {sd : SD} (to : α → PyData) (f : α → PyData) : ∀ (rs : List α) (Q : List PyData → Prop),
    (∀ r ∈ rs, ∀ (A : PyData → Prop) (B : Prop), A (f r) → g (to r) sd fun sd2 => t sd2 fun b => if b = true then we sd2 (fun z => A z.dat) else B) →
    Q (rs.map f) → lcW g t we sd (rs.map to) Q
  | [], Q, _, q => q
  | r :: rs, Q, h, q => by
    refine h r List.mem_cons_self (fun x => lcW g t we sd (rs.map to) fun out => Q (x :: out)) _ ?_
    exact lcW_rows to f rs _ (fun e m => h e (List.mem_cons_of_mem _ m)) q
end
end DL

set_option Elab.async false
set_option linter.all false
set_option maxRecDepth 100000
set_option maxHeartbeats 400000
/-! rules whose readings reckon by themselves: isinstance, items at written places, ==, in -/
namespace DL
open PySem PySem.Spec PyProof.Rows L2
variable [Tb]
section
variable {X : Cx} {e a b : Expr} {es : List Expr} {m m1 m2 : Md} {pos p : Pos} {x : Str}
theorem EvR.imp {w w' : WR} (h : EvR X e w) (k : ∀ sd Q, w' sd Q → w sd Q) (mo : ∀ sd (Q Q' : RV → Prop), (∀ r, Q r → Q' r) → w' sd Q → w' sd Q') : EvR X e w' where
  pe := PE.weak h.pe fun σ H Q ⟨c, sd, os, hk, r, q⟩ => ⟨c, sd, os, hk, r, k _ _ q⟩
  mo := mo
theorem EvT.imp {w w' : WB} (h : EvT X e w) (k : ∀ sd Q, w' sd Q → w sd Q) (mo : ∀ sd (Q Q' : Bool → Prop), (∀ r, Q r → Q' r) → w' sd Q → w' sd Q') : EvT X e w' where
  pt := PT.weak h.pt fun σ H Q ⟨c, sd, os, hk, r, q⟩ => ⟨c, sd, os, hk, r, k _ _ q⟩
  mo := mo
/-! ### isinstance -/
def isStrD : PyData → Bool | .str _ => true | _ => false
def isTupD : PyData → Bool | .tuple _ => true | _ => false
def isLstD : PyData → Bool | .list _ => true | _ => false
def isDctD : PyData → Bool | .dict _ => true | _ => false
def isBooD : PyData → Bool | .bool _ => true | _ => false
def isIntD : PyData → Bool | .int _ => true | .bool _ => true | _ => false
theorem kit_str (d : PyData) : kitB (tyN d) "str" = some (isStrD d) := by cases d <;> (simp only [tyN, isStrD]; decide +kernel)
theorem kit_tup (d : PyData) : kitB (tyN d) "tuple" = some (isTupD d) := by cases d <;> (simp only [tyN, isTupD]; decide +kernel)
theorem kit_lst (d : PyData) : kitB (tyN d) "list" = some (isLstD d) := by cases d <;> (simp only [tyN, isLstD]; decide +kernel)
theorem kit_dct (d : PyData) : kitB (tyN d) "dict" = some (isDctD d) := by cases d <;> (simp only [tyN, isDctD]; decide +kernel)
theorem kit_boo (d : PyData) : kitB (tyN d) "bool" = some (isBooD d) := by cases d <;> (simp only [tyN, isBooD]; decide +kernel)
theorem kit_int (d : PyData) : kitB (tyN d) "int" = some (isIntD d) := by cases d <;> (simp only [tyN, isIntD]; decide +kernel)
def wIs (f : PyData → Bool) (w : WD) : WR := fun sd Q => w sd fun d => Q (.va (.bool (f d)))
theorem evr_is {w : WD} {p2 : Pos} (T : String) (tx : Str) {f : PyData → Bool} (k : ∀ d, kitB (tyN d) T = some (f d)) (h : Ev .bo X e w) (hm : X.mg "isinstance" = none) (hmt : X.mg tx = none) (hv : bootBuiltins "isinstance" = some (.builtin "isinstance")) (hvt : bootBuiltins tx = some (.type T))
    (hg : Gl X "isinstance" := by rfl) (hgt : Gl X tx := by rfl) (hn : tx ≠ "__name__" := by decide) (hdb : (tx == ("__debug__" : Str)) = false := by decide)
    (h1 : starEach [e, .Name tx p2] X.env = (false, eval e X.env) :: starEach [.Name tx p2] X.env := by rfl) (h2 : starEach [.Name tx p2] X.env = (false, eval (.Name tx p2) X.env) :: starEach [] X.env := by rfl)
    (hpl : (backTo pos (starEach [.Name tx p2] X.env)).any (·.1) = false := by rfl) :
    EvR X (.Call (.Name "isinstance" p) [e, .Name tx p2] [] pos) (wIs f w) :=
  (evr_isi T tx h hm hmt hv hvt hg hgt hn hdb h1 h2 hpl).imp (fun sd Q q => h.mo _ _ _ (fun d z => by show match kitB (tyN d) T with | some b => Q (.va (.bool b)) | none => False; rw [k]; exact z) q)
    (fun sd Q Q' k q => h.mo _ _ _ (fun d z => k _ z) q)
/-! ### items at written places -/
def nthD : List PyData → Nat → Option PyData
  | [], _ => none
  | d :: _, 0 => some d
  | _ :: ds, n + 1 => nthD ds n
theorem nthD_atI : ∀ (ds : List PyData) (n : Nat), atI ds (n : Int) = nthD ds n := by
  intro ds n
  have key : ∀ (ds : List PyData) (n : Nat), nthD ds n = ds[n]? := by
    intro ds
    induction ds with
    | nil => intro n; simp [nthD]
    | cons d ds ih =>
      intro n
      cases n with
      | zero => rfl
      | succ n => simp [nthD, ih]
  rw [key]
  cases h : ds[n]? with
  | some v => exact L2.atI_nat h
  | none =>
    unfold atI ixN
    have hl : ds.length ≤ n := by rw [List.getElem?_eq_none_iff] at h; exact h
    rw [if_pos (by omega), if_neg (by omega)]
    rfl
def ixC (n : Nat) (d : PyData) (Q : RV → Prop) : Prop := match d with
  | .list xs => match nthD xs n with
    | some v => Q (.va v)
    | none => False
  | .tuple xs => match nthD xs n with
    | some v => Q (.va v)
    | none => False
  | .str z => z.length ≤ sizeLine ∧ match atI z.cps.toList n with
    | some c => Q (.va (.str ⟨#[c]⟩))
    | none => False
  | _ => False
theorem ixC_mo {n : Nat} {d : PyData} {Q Q' : RV → Prop} (k : ∀ r, Q r → Q' r) (q : ixC n d Q) : ixC n d Q' := by
  unfold ixC at q ⊢
  split at q
  · split at q
    · exact k _ q
    · exact q.elim
  · split at q
    · exact k _ q
    · exact q.elim
  · refine ⟨q.1, ?_⟩
    have q2 := q.2
    split at q2
    · exact k _ q2
    · exact q2.elim
  · exact q.elim
def wIxC (n : Nat) (w : WD) : WR := fun sd Q => w sd fun d => ixC n d Q
theorem ixC_rd {n : Nat} {d : PyData} {Q : RV → Prop} (q : ixC n d Q) : rdIxS d (.int (n : Int)) Q := by
  unfold ixC at q
  unfold rdIxS
  cases d with
  | list xs => simp only at q ⊢; rw [nthD_atI]; exact q
  | tuple xs => simp only at q ⊢; rw [nthD_atI]; exact q
  | str z => exact q
  | none => exact q.elim
  | bool b => exact q.elim
  | int i => exact q.elim
  | dict k => exact q.elim
theorem evr_ixC {w : WD} {j : Nat} {p1 : Pos} (n : Nat) (h : Ev .sh X a w) : EvR X (.Subscript a (.Constant (.int (n : Int)) j p1) pos) (wIxC n w) :=
  (evr_ix id_ixS h ev_int).imp (fun sd Q q => h.mo _ _ _ (fun d z => ixC_rd z) q) (fun sd Q Q' k q => h.mo _ _ _ (fun d z => ixC_mo k z) q)
/-! ### == -/
def dEq (d e : PyData) (Q : Bool → Prop) : Prop := match d, e with
  | .int i, .int j => Q (decide (i = j))
  | .str i, .str j => Q (decide (i = j))
  | .none, .none => Q true
  | .bool i, .bool j => Q (decide (i = j))
  | .none, .str _ => Q false
  | .str _, .none => Q false
  | .none, .int _ => Q false
  | .int _, .none => Q false
  | .int _, .str _ => Q false
  | .str _, .int _ => Q false
  | d, e => (SeqAt.shaped d = true ∧ SeqAt.shaped e = true) ∧ Q (PyData.eqv d e)
def rdEq2 (neg : Bool) : RD2 := fun d e Q => dEq d e fun b => Q (.va (.bool (if neg then !b else b)))
theorem dEq_mo {d e : PyData} {Q Q' : Bool → Prop} (k : ∀ r, Q r → Q' r) (q : dEq d e Q) : dEq d e Q' := by
  unfold dEq at q ⊢
  split at q <;> first | exact k _ q | exact ⟨q.1, k _ q.2⟩
theorem rdEq2_mo {n : Bool} : Mo2 (rdEq2 n) := fun d e Q Q' k q => dEq_mo (fun r z => k _ z) q
theorem boInt {K : PySem.W.Frag} {S O : List Addr} {H : Hp} {x : V} {i : Int} (h : DM .bo K S O H x (.int i)) : x = .int i := by cases h; rfl
theorem boStr {K : PySem.W.Frag} {S O : List Addr} {H : Hp} {x : V} {i : Str} (h : DM .bo K S O H x (.str i)) : x = .str i := by cases h; rfl
theorem boBl {K : PySem.W.Frag} {S O : List Addr} {H : Hp} {x : V} {i : Bool} (h : DM .bo K S O H x (.bool i)) : x = .bl i := by cases h; rfl
theorem boNon {K : PySem.W.Frag} {S O : List Addr} {H : Hp} {x : V} (h : DM .bo K S O H x .none) : x = .non := by cases h; rfl
theorem br_eq2 {K : PySem.W.Frag} : Br2 K .bo .bo (fun x y H Q => rEq x y H Q ∨ rEqD K x y H Q) (rdEq2 false) := by
  intro S O H x y d e Q hs hO hx hy q
  unfold rdEq2 dEq at q
  split at q
  · rw [boInt hx, boInt hy]; exact .inl ⟨rfl, by simpa using q _ H (Same.refl H) (.bl _)⟩
  · rw [boStr hx, boStr hy]; exact .inl ⟨rfl, by simpa using q _ H (Same.refl H) (.bl _)⟩
  · rw [boNon hx, boNon hy]; exact .inl ⟨rfl, by simpa using q _ H (Same.refl H) (.bl _)⟩
  · rw [boBl hx, boBl hy]; exact .inl ⟨rfl, by simpa using q _ H (Same.refl H) (.bl _)⟩
  · rw [boNon hx, boStr hy]; exact .inl ⟨rfl, by simpa using q _ H (Same.refl H) (.bl _)⟩
  · rw [boStr hx, boNon hy]; exact .inl ⟨rfl, by simpa using q _ H (Same.refl H) (.bl _)⟩
  · rw [boNon hx, boInt hy]; exact .inl ⟨rfl, by simpa using q _ H (Same.refl H) (.bl _)⟩
  · rw [boInt hx, boNon hy]; exact .inl ⟨rfl, by simpa using q _ H (Same.refl H) (.bl _)⟩
  · rw [boInt hx, boStr hy]; exact .inl ⟨rfl, by simpa using q _ H (Same.refl H) (.bl _)⟩
  · rw [boStr hx, boInt hy]; exact .inl ⟨rfl, by simpa using q _ H (Same.refl H) (.bl _)⟩
  · exact .inr ⟨_, _, boDp hx q.1.1, boDp hy q.1.2, q.1.1, q.1.2, q.2 _ H (Same.refl H) (.bl _)⟩
theorem br_ne2 {K : PySem.W.Frag} : Br2 K .bo .bo (fun x y H Q => rNe x y H Q ∨ rNeD K x y H Q) (rdEq2 true) := by
  intro S O H x y d e Q hs hO hx hy q
  unfold rdEq2 dEq at q
  split at q
  · rw [boInt hx, boInt hy]; exact .inl ⟨rfl, by simpa using q _ H (Same.refl H) (.bl _)⟩
  · rw [boStr hx, boStr hy]; exact .inl ⟨rfl, by simpa using q _ H (Same.refl H) (.bl _)⟩
  · rw [boNon hx, boNon hy]; exact .inl ⟨rfl, by simpa using q _ H (Same.refl H) (.bl _)⟩
  · rw [boBl hx, boBl hy]; exact .inl ⟨rfl, by simpa using q _ H (Same.refl H) (.bl _)⟩
  · rw [boNon hx, boStr hy]; exact .inl ⟨rfl, by simpa using q _ H (Same.refl H) (.bl _)⟩
  · rw [boStr hx, boNon hy]; exact .inl ⟨rfl, by simpa using q _ H (Same.refl H) (.bl _)⟩
  · rw [boNon hx, boInt hy]; exact .inl ⟨rfl, by simpa using q _ H (Same.refl H) (.bl _)⟩
  · rw [boInt hx, boNon hy]; exact .inl ⟨rfl, by simpa using q _ H (Same.refl H) (.bl _)⟩
  · rw [boInt hx, boStr hy]; exact .inl ⟨rfl, by simpa using q _ H (Same.refl H) (.bl _)⟩
  · rw [boStr hx, boInt hy]; exact .inl ⟨rfl, by simpa using q _ H (Same.refl H) (.bl _)⟩
  · exact .inr ⟨_, _, boDp hx q.1.1, boDp hy q.1.2, q.1.1, q.1.2, q.2 _ H (Same.refl H) (.bl _)⟩
theorem od_eq2 (hu : X.A.units + 64 < cLine) : OpD X (compareOp .Eq) .bo .bo (rdEq2 false) := ⟨⟨_, op_eq.or (op_eqD hu), br_eq2⟩, rdEq2_mo⟩
theorem od_ne2 (hu : X.A.units + 64 < cLine) : OpD X (compareOp .NotEq) .bo .bo (rdEq2 true) := ⟨⟨_, op_ne.or (op_neD hu), br_ne2⟩, rdEq2_mo⟩
/-! ### -n -/
def wNeg (w : WD) : WR := fun sd Q => w sd fun d => match d with
  | .int i => Q (.va (.int (-i)))
  | _ => False
theorem evr_neg {w : WD} (h : Ev .sh X a w) : EvR X (.UnaryOp .USub a pos) (wNeg w) where
  pe := PE.weak (pe_un un_neg h.pe) fun σ H Q ⟨c, sd, os, hk, r, q⟩ => ⟨c, sd, os, hk, r, h.mo _ _ _ (fun d k v H1 x1 dm => by
    cases d with
    | int i => exact ⟨i, shInt dm, k _ H1 x1 (.int _)⟩
    | _ => exact k.elim) q⟩
  mo := fun sd Q Q' k q => h.mo _ _ _ (fun d z => by
    cases d with
    | int i => exact k _ z
    | _ => exact z.elim) q
end
end DL

set_option Elab.async false
set_option linter.all false
set_option maxRecDepth 100000
set_option maxHeartbeats 400000
/-! things with parts, and rows as such things -/
namespace DL
open PySem PySem.Spec PyProof.Rows L2
variable [Tb]
/-- a thing's data and its parts -/
inductive Rose where
  | node (d : PyData) (cs : List Rose)
def Rose.d : Rose → PyData | .node d _ => d
def Rose.cs : Rose → List Rose | .node _ cs => cs
mutual
def Rose.many : Rose → Nat | .node _ cs => 1 + Rose.manyL cs
def Rose.manyL : List Rose → Nat | [] => 0 | c :: cs => c.many + Rose.manyL cs
end
mutual
/-- a thing's parts in order, what stands in a part ahead of it, last itself -/
def Rose.inner : Rose → List Rose | .node d cs => Rose.innerL cs ++ [.node d cs]
def Rose.innerL : List Rose → List Rose | [] => [] | c :: cs => c.inner ++ Rose.innerL cs
end
theorem Rose.many_eq (t : Rose) : t.many = 1 + Rose.manyL t.cs := by cases t; simp only [Rose.many, Rose.cs]
theorem Rose.inner_eq (t : Rose) : t.inner = Rose.innerL t.cs ++ [t] := by cases t; simp only [Rose.inner, Rose.cs]
theorem Rose.innerL_app : ∀ xs ys : List Rose, Rose.innerL (xs ++ ys) = Rose.innerL xs ++ Rose.innerL ys
  | [], _ => rfl
  | x :: xs, ys => by simp only [List.cons_append, Rose.innerL, Rose.innerL_app xs ys, List.append_assoc]
theorem Rose.manyL_app : ∀ xs ys : List Rose, Rose.manyL (xs ++ ys) = Rose.manyL xs + Rose.manyL ys
  | [], _ => by simp only [List.nil_append, Rose.manyL, Nat.zero_add]
  | x :: xs, ys => by simp only [List.cons_append, Rose.manyL, Rose.manyL_app xs ys, Nat.add_assoc]
mutual
theorem Rose.inner_len : ∀ t : Rose, t.inner.length = t.many
  | .node d cs => by simp only [Rose.inner, Rose.many, List.length_append, Rose.innerL_len cs, List.length_cons, List.length_nil]; omega
theorem Rose.innerL_len : ∀ ts : List Rose, (Rose.innerL ts).length = Rose.manyL ts
  | [] => rfl
  | t :: ts => by simp only [Rose.innerL, Rose.manyL, List.length_append, Rose.inner_len t, Rose.innerL_len ts]
end
theorem Rose.len_le : ∀ ts : List Rose, ts.length ≤ Rose.manyL ts
  | [] => Nat.le_refl _
  | t :: ts => by
    have := Rose.len_le ts
    have := t.many_eq
    simp only [List.length_cons, Rose.manyL]; omega
/-- a def that tells a thing's parts -/
def fsNode (ok : Rose → Prop) : FSp := fun as Q => ∃ t : Rose, ok t ∧ as = [.va t.d] ∧ ∀ d : PyData, (d = .list (t.cs.map Rose.d) ∨ d = .tuple (t.cs.map Rose.d)) → ∀ z : RV, z.dat = d → Q z
theorem moNode {ok : Rose → Prop} : MoF (fsNode ok) := fun as Q Q' k ⟨t, h1, h2, h3⟩ => ⟨t, h1, h2, fun d e z f => k _ (h3 d e z f)⟩
def Her (ok : Rose → Prop) : Prop := ∀ t, ok t → ∀ c ∈ t.cs, ok c
def fs_inner_first (f : Addr) (ok : Rose → Prop) : FSp := fun as Q => ∃ t : Rose, ok t ∧ t.many ≤ 1000000 ∧ as = [.va t.d, .fn f] ∧ Q (.fr (t.inner.map Rose.d))
theorem mo_inner_first {f : Addr} {ok : Rose → Prop} : MoF (fs_inner_first f ok) := fun as Q Q' k ⟨t, h1, h2, h3, h4⟩ => ⟨t, h1, h2, h3, k _ h4⟩
/-- the loop's middle: what waits, from behind -/
theorem inner_step (t : Rose) (init : List Rose) : (Rose.innerL (init ++ [t])) = Rose.innerL (init ++ t.cs) ++ [t] := by
  rw [Rose.innerL_app, Rose.innerL_app, List.append_assoc]
  simp only [Rose.innerL, List.append_nil]
  rw [t.inner_eq]
theorem many_step (t : Rose) (init : List Rose) : Rose.manyL (init ++ [t]) = Rose.manyL (init ++ t.cs) + 1 := by
  rw [Rose.manyL_app, Rose.manyL_app]
  simp only [Rose.manyL]
  have := t.many_eq
  omega
theorem z1 : (1 : Nat) ≤ sizeLine := by decide
/-! ### rows -/
def Rw.parts : Rw → List Rw
  | .let _ => []
  | .join rs => rs
  | .right r => [r]
  | .left r => [r]
  | .mix rs => rs
mutual
def Rw.wf : Rw → Bool
  | .let _ => true
  | .join rs => decide (2 ≤ rs.length) && Rw.wfL rs
  | .right r => r.wf
  | .left r => r.wf
  | .mix rs => decide (1 ≤ rs.length) && Rw.wfL rs
def Rw.wfL : List Rw → Bool
  | [] => true
  | r :: rs => r.wf && Rw.wfL rs
end
theorem Rw.wfL_iff : ∀ rs : List Rw, Rw.wfL rs = true ↔ ∀ r ∈ rs, r.wf = true
  | [] => by simp [Rw.wfL]
  | r :: rs => by simp [Rw.wfL, Rw.wfL_iff rs]
theorem Rw.wf_parts (r : Rw) (h : r.wf = true) : ∀ s ∈ r.parts, s.wf = true := by
  cases r with
  | «let» c => intro s m; cases m
  | join rs => simp only [Rw.wf, Bool.and_eq_true] at h; exact (Rw.wfL_iff rs).mp h.2
  | right r => intro s m; simp only [Rw.parts, List.mem_singleton] at m; subst m; simpa only [Rw.wf] using h
  | left r => intro s m; simp only [Rw.parts, List.mem_singleton] at m; subst m; simpa only [Rw.wf] using h
  | mix rs => simp only [Rw.wf, Bool.and_eq_true] at h; exact (Rw.wfL_iff rs).mp h.2
theorem Rw.nodes_eq (r : Rw) : r.nodes = 1 + Rw.nodesL r.parts := by
  cases r <;> simp only [Rw.nodes, Rw.parts, Rw.nodesL] <;> omega
theorem Rw.dep_parts (r : Rw) : ∀ s ∈ r.parts, s.dep < r.dep := by
  cases r with
  | «let» c => intro s m; cases m
  | join rs => intro s m; have := Rw.dep_mem (rs := rs) m; simp only [Rw.dep]; omega
  | right r => intro s m; simp only [Rw.parts, List.mem_singleton] at m; subst m; simp only [Rw.dep]; omega
  | left r => intro s m; simp only [Rw.parts, List.mem_singleton] at m; subst m; simp only [Rw.dep]; omega
  | mix rs => intro s m; have := Rw.dep_mem (rs := rs) m; simp only [Rw.dep]; omega
mutual
def Rw.rose : Rw → Rose
  | .let c => .node (Rw.let c).toD []
  | .join rs => .node (Rw.join rs).toD (Rw.roseL rs)
  | .right r => .node (Rw.right r).toD [r.rose]
  | .left r => .node (Rw.left r).toD [r.rose]
  | .mix rs => .node (Rw.mix rs).toD (Rw.roseL rs)
def Rw.roseL : List Rw → List Rose
  | [] => []
  | r :: rs => r.rose :: Rw.roseL rs
end
theorem Rw.roseL_eq : ∀ rs : List Rw, Rw.roseL rs = rs.map Rw.rose
  | [] => rfl
  | r :: rs => by simp only [Rw.roseL, List.map_cons, Rw.roseL_eq rs]
theorem Rw.rose_d (r : Rw) : r.rose.d = r.toD := by cases r <;> simp only [Rw.rose, Rose.d]
theorem Rw.rose_cs (r : Rw) : r.rose.cs = r.parts.map Rw.rose := by
  cases r <;> simp only [Rw.rose, Rose.cs, Rw.parts, Rw.roseL_eq, List.map_nil, List.map_cons]
theorem Rw.rose_map (rs : List Rw) : (rs.map Rw.rose).map Rose.d = rs.map Rw.toD := by
  rw [List.map_map]
  exact List.map_congr_left fun r _ => r.rose_d
mutual
theorem Rw.rose_many : ∀ r : Rw, r.rose.many = r.nodes
  | .let c => by simp only [Rw.rose, Rose.many, Rw.nodes, Rose.manyL]
  | .join rs => by simp only [Rw.rose, Rose.many, Rw.nodes, Rw.roseL_many rs]
  | .right r => by simp only [Rw.rose, Rose.many, Rw.nodes, Rose.manyL, Rw.rose_many r, Nat.add_zero]
  | .left r => by simp only [Rw.rose, Rose.many, Rw.nodes, Rose.manyL, Rw.rose_many r, Nat.add_zero]
  | .mix rs => by simp only [Rw.rose, Rose.many, Rw.nodes, Rw.roseL_many rs]
theorem Rw.roseL_many : ∀ rs : List Rw, Rose.manyL (Rw.roseL rs) = Rw.nodesL rs
  | [] => rfl
  | r :: rs => by simp only [Rw.roseL, Rose.manyL, Rw.nodesL, Rw.rose_many r, Rw.roseL_many rs]
end
/-- things that are rows -/
def okRow (t : Rose) : Prop := ∃ r : Rw, t = r.rose ∧ r.wf = true
theorem her_row : Her okRow := by
  rintro t ⟨r, rfl, h⟩ c m
  rw [r.rose_cs] at m
  obtain ⟨s, ms, rfl⟩ := List.mem_map.mp m
  exact ⟨s, rfl, r.wf_parts h s ms⟩
def PyData.tupD : PyData → List PyData | .tuple ds => ds | _ => []
/-! ### words -/
theorem nLR : ¬ sL = sR := by decide +kernel
theorem nMR : ¬ sM = sR := by decide +kernel
theorem nRL : ¬ sR = sL := by decide +kernel
theorem nML' : ¬ sM = sL := by decide +kernel
theorem nJR' : ¬ sJ = sR := by decide +kernel
theorem nJL' : ¬ sJ = sL := by decide +kernel
theorem nJM' : ¬ sJ = sM := by decide +kernel
theorem nRM : ¬ sR = sM := by decide +kernel
theorem nLM' : ¬ sL = sM := by decide +kernel
theorem dw (s : Str) : decide (s = s) = true := decide_eq_true rfl
theorem wds (w : Str) (a b : Str) : (List.any [PyData.str a, PyData.str b] fun y => PyData.eqv y (.str w)) = (decide (a = w) || (decide (b = w) || false)) := by
  simp only [List.any_cons, List.any_nil, eqv_str]
theorem eqvS (a b : Str) : PyData.eqv (.str a) (.str b) = decide (a = b) := eqv_str a b
theorem bind_of {W : WR} {sd : SD} {Q : RV → Prop} (P : RV → Prop) (h : ∀ Q' : RV → Prop, (∀ z, P z → Q' z) → W sd Q') (q : ∀ z, P z → Q z) : W sd Q := h Q q
theorem ite3 {c : Prop} {inst : Decidable c} {a b : Prop} (h1 : c → a) (h2 : ¬ c → b) : @ite Prop c inst a b := by
  by_cases h : c
  · rw [if_pos h]; exact h1 h
  · rw [if_neg h]; exact h2 h
theorem wJR : decide (sJ = sR) = false := by decide +kernel
theorem wJL : decide (sJ = sL) = false := by decide +kernel
theorem wJM : decide (sJ = sM) = false := by decide +kernel
theorem wRJ : decide (sR = sJ) = false := by decide +kernel
theorem wRL : decide (sR = sL) = false := by decide +kernel
theorem wRM : decide (sR = sM) = false := by decide +kernel
theorem wLJ : decide (sL = sJ) = false := by decide +kernel
theorem wLR : decide (sL = sR) = false := by decide +kernel
theorem wLM : decide (sL = sM) = false := by decide +kernel
theorem wMJ : decide (sM = sJ) = false := by decide +kernel
theorem wMR : decide (sM = sR) = false := by decide +kernel
theorem wML : decide (sM = sL) = false := by decide +kernel
theorem nodes_sum (r : Rw) : (1 : Int) + (r.parts.map fun s => (s.nodes : Int)).sum = r.nodes := by
  have key : ∀ rs : List Rw, (rs.map fun s => (s.nodes : Int)).sum = (Rw.nodesL rs : Int) := by
    intro rs
    induction rs with
    | nil => rfl
    | cons s rs ih => simp only [List.map_cons, List.sum_cons, ih, Rw.nodesL]; omega
  rw [key, r.nodes_eq]
  omega
theorem Rw.nodes_mem : ∀ {rs : List Rw} {r : Rw}, r ∈ rs → r.nodes ≤ Rw.nodesL rs
  | [], _, m => by cases m
  | s :: rs, r, m => by
    simp only [Rw.nodesL]
    rcases List.mem_cons.mp m with rfl | m
    · omega
    · have := Rw.nodes_mem m
      omega
mutual
theorem Rw.noL : ∀ r : Rw, DL.noL r.toD = true
  | .let c => rfl
  | .join rs => by simp only [Rw.toD, DL.noL, noLs, Rw.noLL rs, Bool.and_self]
  | .right r => by simp only [Rw.toD, DL.noL, noLs, Rw.noL r, Bool.and_self]
  | .left r => by simp only [Rw.toD, DL.noL, noLs, Rw.noL r, Bool.and_self]
  | .mix rs => by simp only [Rw.toD, DL.noL, noLs, Rw.noLL rs, Bool.and_self]
theorem Rw.noLL : ∀ rs : List Rw, noLs (Rw.toDs rs) = true
  | [] => rfl
  | r :: rs => by simp only [Rw.toDs, noLs, Rw.noL r, Rw.noLL rs, Bool.and_self]
end
structure Good (d : PyData) : Prop where
  show_ : okShow d
  sh : SeqAt.shaped d = true
  txt : SeqAt.shaped (.str d.shown) = true
  eq : PyData.eqv d d = true
theorem good_row (r : Rw) (h : r.dep ≤ 32) (hn : r.nodes ≤ 100000) : Good r.toD := ⟨r.okShow h hn, r.sh h, sh_str r.ok_shown, r.eqv_self⟩
theorem good_non : Good .none := ⟨okShow_non, sh_non, sh_str ok_shownN, eqv_non⟩
theorem nq {a : Str} : ¬ ((!decide (a = a)) = true) := by simp
theorem nqi {a : Int} : ¬ ((!decide (a = a)) = true) := by simp
theorem nqe {d : PyData} (h : PyData.eqv d d = true) : ¬ ((!PyData.eqv d d) = true) := by rw [h]; decide
/-- == of a tuple and of anything -/
theorem dEq_tup {ds : List PyData} {e : PyData} {Q : Bool → Prop} (h1 : SeqAt.shaped (.tuple ds) = true) (h2 : SeqAt.shaped e = true) (q : Q (PyData.eqv (.tuple ds) e)) : dEq (.tuple ds) e Q := by
  unfold dEq; exact ⟨⟨h1, h2⟩, q⟩
theorem dEq_lst {ds : List PyData} {e : PyData} {Q : Bool → Prop} (h1 : SeqAt.shaped (.list ds) = true) (h2 : SeqAt.shaped e = true) (q : Q (PyData.eqv (.list ds) e)) : dEq (.list ds) e Q := by
  unfold dEq; exact ⟨⟨h1, h2⟩, q⟩
/-- == of data that are the same -/
theorem dEq_same {d : PyData} {Q : Bool → Prop} (h : SeqAt.shaped d = true) (e : PyData.eqv d d = true) (q : Q true) : dEq d d Q := by
  cases d <;> simp only [dEq] <;> first | exact q | (rw [e]; exact ⟨⟨h, h⟩, q⟩) | (simpa using q)
theorem ixC_lst {n : Nat} {xs : List PyData} {v : PyData} {Q : RV → Prop} (h : nthD xs n = some v) (q : Q (.va v)) : ixC n (.list xs) Q := by
  simp only [ixC, h]; exact q
theorem ixC_tup {n : Nat} {xs : List PyData} {v : PyData} {Q : RV → Prop} (h : nthD xs n = some v) (q : Q (.va v)) : ixC n (.tuple xs) Q := by
  simp only [ixC, h]; exact q
theorem head_of {rs : List Rw} (h : 0 < rs.length) : ∃ r ∈ rs, nthD (rs.map Rw.toD) 0 = some r.toD := by
  cases rs with
  | nil => simp at h
  | cons r rest => exact ⟨r, List.mem_cons_self, rfl⟩
theorem wf_mem {rs : List Rw} (h : Rw.wfL rs = true) {r : Rw} (m : r ∈ rs) : r.wf = true := (Rw.wfL_iff rs).mp h r m
mutual
theorem dep_nodes : ∀ r : Rw, r.dep ≤ r.nodes
  | .let c => by simp only [Rw.dep]; omega
  | .join rs => by have := dep_nodesL rs; simp only [Rw.dep, Rw.nodes]; omega
  | .right r => by have := dep_nodes r; simp only [Rw.dep, Rw.nodes]; omega
  | .left r => by have := dep_nodes r; simp only [Rw.dep, Rw.nodes]; omega
  | .mix rs => by have := dep_nodesL rs; simp only [Rw.dep, Rw.nodes]; omega
theorem dep_nodesL : ∀ rs : List Rw, Rw.depL rs ≤ Rw.nodesL rs
  | [] => Nat.le_refl _
  | r :: rs => by have := dep_nodes r; have := dep_nodesL rs; simp only [Rw.depL, Rw.nodesL]; omega
end
end DL

set_option Elab.async false
set_option linter.all false
set_option maxRecDepth 100000
set_option maxHeartbeats 400000
/-! more rules: [*a, b], x += n, three names at once, max -/
namespace DL
open PySem PySem.Spec PyProof.Rows L2
variable [Tb]
section
variable {X : Cx} {e a b : Expr} {es : List Expr} {m m1 m2 : Md} {pos p : Pos} {x y z : Str}
theorem dms_app {K : PySem.W.Frag} {S O : List Addr} {H : Hp} {m : Md} : ∀ {vs ws : List V} {ds es : List PyData}, DMs m K S O H vs ds → DMs m K S O H ws es → DMs m K S O H (vs ++ ws) (ds ++ es)
  | _, _, _, _, .nil, q => q
  | _, _, _, _, .cons h t, q => .cons h (dms_app t q)
theorem dms_of {K : PySem.W.Frag} {S O : List Addr} {H : Hp} : ∀ {vs : List V} {ds : List PyData}, DxAll K (hid O H) vs ds → DMs .cl K S O H vs ds
  | _, _, .nil => .nil
  | _, _, .cons h t => .cons h (dms_of t)
/-- *e, .. in a display -/
theorem evl_star {w : WD} {ws : WL} (h : Ev .sh X e w) (t : EvL .cl X es ws) (hs : starEach (.Starred e p :: es) X.env = (true, eval e X.env) :: starEach es X.env := by rfl) :
    EvL .cl X (.Starred e p :: es) (fun sd Q => w sd fun d => dItems d fun zs => ws sd fun ds => Q (zs ++ ds)) where
  pa := PA.weak (StX.pa_star h.pe t.pa hs) fun σ H Q ⟨c, sd, os, hk, r, q⟩ =>
    ⟨c, sd, os, hk, r, h.mo _ _ _ (fun d k v H1 x1 d1 => by
      unfold dItems at k
      split at k
      · obtain ⟨a, xs, rfl, h1, h2⟩ := d1
        refine ⟨a, xs, rfl, .inr (.inl (.inl (hid_some h1).2)), c, sd, os, hk, r.grow x1, t.mo _ _ _ (fun ds k2 vs H2 x2 d2 => ?_) k⟩
        exact k2 _ H2 (x1.trans x2) (dms_app (DMs.grow r.sO x2 (dms_of h2)) d2)
      · obtain ⟨a, xs, rfl, h1, h2⟩ := shTup d1
        refine ⟨a, xs, rfl, .inl (SqT.same hid_sub h1), c, sd, os, hk, r.grow x1, t.mo _ _ _ (fun ds k2 vs H2 x2 d2 => ?_) k⟩
        exact k2 _ H2 (x1.trans x2) (dms_app (DMs.grow r.sO x2 (dms_of h2)) d2)
      · exact k.elim) q⟩
  mo := fun sd Q Q' k q => h.mo _ _ _ (fun d z => dItems_mo (fun zs y => t.mo _ _ _ (fun ds y => k _ y) y) z) q
/-- x += n, whole numbers -/
def wAugI (i : Nat) (we : WD) : WS := fun E sd => match getS sd i with
  | .va (.int a) => we sd fun d => match d with
    | .int b => E.nx (sd.set i (.va (.int (a + b))))
    | _ => False
  | _ => False
theorem evs_augI {we : WD} {pos' : Pos} (i : Nat) (h : Ev .sh X e we) (hN : X.N.Nodup) (hi : X.N[i]? = some x := by rfl) (hx : Loc X.env.scope x := by first | exact Or.inl rfl | exact Or.inr rfl)
    (hf : X.fn x = true ∨ X.env.scope.names.lookup x = some .local := by first | exact .inl rfl | exact .inr rfl) :
    EvS X (.AugAssign (.Name x pos') .Add e pos) (wAugI i we) where
  ps := PS.weak (ps_aug hN hi hx h.pe ip_add hf) fun D σ H ⟨c, sd, os, E, hk, r, er, q⟩ => by
    unfold wAugI at q
    cases g : getS sd i with
    | va d =>
      rw [g] at q
      cases d with
      | int a =>
        obtain ⟨v, oa, h1, h2, h3, y, rfl, h4⟩ := r.at_ g (by intro z; cases z)
        cases h4
        refine ⟨_, h1, c, sd, os, hk, r, h.mo _ _ _ (fun d k v H1 x1 dm => ?_) q⟩
        cases d with
        | int b =>
          refine ⟨a, b, rfl, shInt dm, ?_⟩
          obtain ⟨os', r'⟩ := R.set (i := i) (z := .va (.int (a + b))) r x1 (Dx.int _)
          exact er.nx _ _ _ _ r' k
        | _ => exact k.elim
      | _ => exact q.elim
    | _ => rw [g] at q; exact q.elim
  mo := fun E E' sd h1 _ _ _ q => by
    unfold wAugI at q ⊢
    split at q
    · exact h.mo _ _ _ (fun d z => by
        cases d with
        | int b => exact h1 _ z
        | _ => exact z.elim) q
    · exact q.elim
/-- a, b, c = e, f, g -/
def wPar3 (i j l : Nat) (wl : WL) : WS := fun E sd => wl sd fun ds => match ds with
  | [d1, d2, d3] => E.nx (((sd.set i (.va d1)).set j (.va d2)).set l (.va d3))
  | _ => False
theorem evs_par3 {e1 e2 e3 : Expr} {wl : WL} {px py pz pt : Pos} {kt k2 pt2} (i j l : Nat) (h : EvL .cl X [e1, e2, e3] wl) (hc : X.calm = true) (hN : X.N.Nodup) (hi : X.N[i]? = some x := by rfl) (hj : X.N[j]? = some y := by rfl) (hl : X.N[l]? = some z := by rfl)
    (hij : i ≠ j := by decide) (hil : i ≠ l := by decide) (hjl : j ≠ l := by decide)
    (hx : X.env.scope.names.lookup x = some .local := by rfl) (hy : X.env.scope.names.lookup y = some .local := by rfl) (hz : X.env.scope.names.lookup z = some .local := by rfl)
    (hw : swappedStores [.Tuple [.Name x px, .Name y py, .Name z pz] kt pt] (.Tuple [e1, e2, e3] k2 pt2) X.env = pure (some [x, y, z]) := by rfl)
    (hs : swapsWithSole [.Tuple [.Name x px, .Name y py, .Name z pz] kt pt] (.Tuple [e1, e2, e3] k2 pt2) pos.line X.env = pure false := by rfl) :
    EvS X (.Assign [.Tuple [.Name x px, .Name y py, .Name z pz] kt pt] (.Tuple [e1, e2, e3] k2 pt2) pos) (wPar3 i j l wl) where
  ps := PS.weak (ps_par3 hc hN hi hj hl hij hil hjl hx hy hz h.pa hw hs) fun D σ H ⟨c, sd, os, E, hk, r, er, q⟩ => by
    refine ⟨c, sd, os, hk, r, h.mo _ _ _ (fun ds k vs H1 x1 dm => ?_) q⟩
    match ds, vs, dm, k with
    | [d1, d2, d3], _, .cons (v := v1) g1 (.cons (v := v2) g2 (.cons (v := v3) g3 .nil)), k =>
      refine ⟨v1, v2, v3, rfl, ?_⟩
      have rr := (r.grow x1).more [(v1, d1), (v2, d2), (v3, d3)] (fun q m => by
        rw [hk]
        rcases List.mem_cons.mp m with rfl | m
        · exact g1
        · rcases List.mem_cons.mp m with rfl | m
          · exact g2
          · rw [List.mem_singleton.mp m]; exact g3)
      obtain ⟨os1, r1⟩ := R.set (i := i) (z := .va d1) rr Ext.refl (rr.tmp (v1, d1) (List.mem_append_left _ (by simp)))
      obtain ⟨os2, r2⟩ := R.set (i := j) (z := .va d2) r1 Ext.refl (r1.tmp (v2, d2) (List.mem_append_left _ (by simp)))
      obtain ⟨os3, r3⟩ := R.set (i := l) (z := .va d3) r2 Ext.refl (r2.tmp (v3, d3) (List.mem_append_left _ (by simp)))
      exact er.nx _ _ _ _ r3.less k
    | [], _, _, k => exact k.elim
    | [_], _, _, k => exact k.elim
    | [_, _], _, _, k => exact k.elim
    | _ :: _ :: _ :: _ :: _, _, _, k => exact k.elim
  mo := fun E E' sd h1 _ _ _ q => h.mo _ _ _ (fun ds z => by
    match ds, z with
    | [d1, d2, d3], z => exact h1 _ z
    | [], z => exact z.elim
    | [_], z => exact z.elim
    | [_, _], z => exact z.elim
    | _ :: _ :: _ :: _ :: _, z => exact z.elim) q
/-! ### max of a list of whole numbers -/
def dMax (d : PyData) (Q : RV → Prop) : Prop := match d with
  | .list xs => ∃ ns : List Int, xs = ns.map PyData.int ∧ 0 < ns.length ∧ ∀ m, m ∈ ns → (∀ y, y ∈ ns → y ≤ m) → Q (.va (.int m))
  | _ => False
theorem cd_max (hc : X.calm = true) : CallD X (.builtin "max") .sh (rd1 dMax) where
  ex := ⟨_, cr_max hc, rd1_br fun S O H x d Q hs hO hd q => by
    unfold dMax at q
    split at q
    · obtain ⟨ns, rfl, h0, q⟩ := q
      obtain ⟨a, us, rfl, h1, h2⟩ := hd
      have e := all_ints h2
      subst e
      exact ⟨a, ns, rfl, .inl (.inl (hid_some h1).2), h0, fun m hm hy => q m hm hy _ H (Same.refl H) (.int _)⟩
    · exact q.elim⟩
  mo := rd1_mo fun d Q Q' k q => by
    unfold dMax at q ⊢
    split at q
    · obtain ⟨ns, e, h0, q⟩ := q
      exact ⟨ns, e, h0, fun m a b => k _ (q m a b)⟩
    · exact q.elim
end
theorem qisStrD_str (s : Str) : isStrD (.str s) = true := rfl
theorem qisStrD_tup (s : List PyData) : isStrD (.tuple s) = false := rfl
theorem qisStrD_lst (s : List PyData) : isStrD (.list s) = false := rfl
theorem qisStrD_int (s : Int) : isStrD (.int s) = false := rfl
theorem qisStrD_bl (s : Bool) : isStrD (.bool s) = false := rfl
theorem qisStrD_non  : isStrD .none = false := rfl
theorem qisStrD_dct (s : List (PyData × PyData)) : isStrD (.dict s) = false := rfl
theorem qisTupD_str (s : Str) : isTupD (.str s) = false := rfl
theorem qisTupD_tup (s : List PyData) : isTupD (.tuple s) = true := rfl
theorem qisTupD_lst (s : List PyData) : isTupD (.list s) = false := rfl
theorem qisTupD_int (s : Int) : isTupD (.int s) = false := rfl
theorem qisTupD_bl (s : Bool) : isTupD (.bool s) = false := rfl
theorem qisTupD_non  : isTupD .none = false := rfl
theorem qisTupD_dct (s : List (PyData × PyData)) : isTupD (.dict s) = false := rfl
theorem qisLstD_str (s : Str) : isLstD (.str s) = false := rfl
theorem qisLstD_tup (s : List PyData) : isLstD (.tuple s) = false := rfl
theorem qisLstD_lst (s : List PyData) : isLstD (.list s) = true := rfl
theorem qisLstD_int (s : Int) : isLstD (.int s) = false := rfl
theorem qisLstD_bl (s : Bool) : isLstD (.bool s) = false := rfl
theorem qisLstD_non  : isLstD .none = false := rfl
theorem qisLstD_dct (s : List (PyData × PyData)) : isLstD (.dict s) = false := rfl
theorem qisDctD_str (s : Str) : isDctD (.str s) = false := rfl
theorem qisDctD_tup (s : List PyData) : isDctD (.tuple s) = false := rfl
theorem qisDctD_lst (s : List PyData) : isDctD (.list s) = false := rfl
theorem qisDctD_int (s : Int) : isDctD (.int s) = false := rfl
theorem qisDctD_bl (s : Bool) : isDctD (.bool s) = false := rfl
theorem qisDctD_non  : isDctD .none = false := rfl
theorem qisDctD_dct (s : List (PyData × PyData)) : isDctD (.dict s) = true := rfl
theorem qisBooD_str (s : Str) : isBooD (.str s) = false := rfl
theorem qisBooD_tup (s : List PyData) : isBooD (.tuple s) = false := rfl
theorem qisBooD_lst (s : List PyData) : isBooD (.list s) = false := rfl
theorem qisBooD_int (s : Int) : isBooD (.int s) = false := rfl
theorem qisBooD_bl (s : Bool) : isBooD (.bool s) = true := rfl
theorem qisBooD_non  : isBooD .none = false := rfl
theorem qisBooD_dct (s : List (PyData × PyData)) : isBooD (.dict s) = false := rfl
theorem qisIntD_str (s : Str) : isIntD (.str s) = false := rfl
theorem qisIntD_tup (s : List PyData) : isIntD (.tuple s) = false := rfl
theorem qisIntD_lst (s : List PyData) : isIntD (.list s) = false := rfl
theorem qisIntD_int (s : Int) : isIntD (.int s) = true := rfl
theorem qisIntD_bl (s : Bool) : isIntD (.bool s) = true := rfl
theorem qisIntD_non  : isIntD .none = false := rfl
theorem qisIntD_dct (s : List (PyData × PyData)) : isIntD (.dict s) = false := rfl
theorem qAddI (i j : Int) (Q : RV → Prop) : rdAdd (.int i) (.int j) Q = Q (.va (.int (i + j))) := rfl
theorem qAddS (i j : Str) (Q : RV → Prop) : rdAdd (.str i) (.str j) Q = (i.length + j.length ≤ sizeLine ∧ Q (.va (.str (i ++ j)))) := rfl
theorem qAddT (i j : List PyData) (Q : RV → Prop) : rdAdd (.tuple i) (.tuple j) Q = (i.length + j.length ≤ sizeLine ∧ Q (.va (.tuple (i ++ j)))) := rfl
theorem qAddL (i j : List PyData) (Q : RV → Prop) : rdAdd (.list i) (.list j) Q = (i.length + j.length ≤ sizeLine ∧ Q (.fr (i ++ j))) := rfl
theorem qInt (C : Int → Int → Prop) (g : Int → Int → PyData) (i j : Int) (Q : RV → Prop) : rdInt C g (.int i) (.int j) Q = (C i j ∧ Q (.va (g i j))) := rfl
theorem qSlT (xs : List PyData) (lo hi : Option Int) (Q : RV → Prop) : rdSl (.tuple xs) lo hi Q = Q (.va (.tuple (cutD xs lo hi))) := rfl
theorem qSlL (xs : List PyData) (lo hi : Option Int) (Q : RV → Prop) : rdSl (.list xs) lo hi Q = Q (.fr (cutD xs lo hi)) := rfl
theorem qSlS (z : Str) (lo hi : Option Int) (Q : RV → Prop) : rdSl (.str z) lo hi Q = (z.length ≤ sizeLine ∧ Q (.va (.str (cutS z lo hi)))) := rfl
theorem qEqI (i j : Int) (Q : Bool → Prop) : dEq (.int i) (.int j) Q = Q (decide (i = j)) := rfl
theorem qEqS (i j : Str) (Q : Bool → Prop) : dEq (.str i) (.str j) Q = Q (decide (i = j)) := rfl
theorem qEqB (i j : Bool) (Q : Bool → Prop) : dEq (.bool i) (.bool j) Q = Q (decide (i = j)) := rfl
theorem qEqN (Q : Bool → Prop) : dEq .none .none Q = Q true := rfl
theorem qEqT (i j : List PyData) (Q : Bool → Prop) : dEq (.tuple i) (.tuple j) Q = ((SeqAt.shaped (.tuple i) = true ∧ SeqAt.shaped (.tuple j) = true) ∧ Q (PyData.eqv (.tuple i) (.tuple j))) := rfl
theorem qEqL (i j : List PyData) (Q : Bool → Prop) : dEq (.list i) (.list j) Q = ((SeqAt.shaped (.list i) = true ∧ SeqAt.shaped (.list j) = true) ∧ Q (PyData.eqv (.list i) (.list j))) := rfl
theorem qIxT0 (d : PyData) (ds : List PyData) (Q : RV → Prop) : ixC 0 (.tuple (d :: ds)) Q = Q (.va d) := rfl
theorem qIxT1 (d e : PyData) (ds : List PyData) (Q : RV → Prop) : ixC 1 (.tuple (d :: e :: ds)) Q = Q (.va e) := rfl
theorem qIxT2 (d e f : PyData) (ds : List PyData) (Q : RV → Prop) : ixC 2 (.tuple (d :: e :: f :: ds)) Q = Q (.va f) := rfl
theorem qIxL0 (d : PyData) (ds : List PyData) (Q : RV → Prop) : ixC 0 (.list (d :: ds)) Q = Q (.va d) := rfl
theorem qIxL1 (d e : PyData) (ds : List PyData) (Q : RV → Prop) : ixC 1 (.list (d :: e :: ds)) Q = Q (.va e) := rfl
theorem qLenT (xs : List PyData) (Q : RV → Prop) : dLen (.tuple xs) Q = Q (.va (.int xs.length)) := rfl
theorem qLenL (xs : List PyData) (Q : RV → Prop) : dLen (.list xs) Q = Q (.va (.int xs.length)) := rfl
theorem qLenS (z : Str) (Q : RV → Prop) : dLen (.str z) Q = (z.length ≤ sizeLine ∧ Q (.va (.int z.length))) := rfl
theorem qTupT (xs : List PyData) (Q : RV → Prop) : dTuple (.tuple xs) Q = Q (.va (.tuple xs)) := rfl
theorem qTupL (xs : List PyData) (Q : RV → Prop) : dTuple (.list xs) Q = Q (.va (.tuple xs)) := rfl
theorem qLstT (xs : List PyData) (Q : RV → Prop) : dList (.tuple xs) Q = Q (.fr xs) := rfl
theorem qLstL (xs : List PyData) (Q : RV → Prop) : dList (.list xs) Q = Q (.fr xs) := rfl
theorem qIt (xs : List PyData) (Q : List PyData → Prop) : dItems (.tuple xs) Q = Q xs := rfl
theorem qItL (xs : List PyData) (Q : List PyData → Prop) : dItems (.list xs) Q = Q xs := rfl
theorem qIntI (i : Int) (Q : RV → Prop) : dInt (.int i) Q = Q (.va (.int i)) := rfl
theorem qBl (b : Bool) : truD (.bool b) = some b := rfl
theorem qTrT (xs : List PyData) : truD (.tuple xs) = some (!xs.isEmpty) := rfl
theorem qTrL (xs : List PyData) : truD (.list xs) = some (!xs.isEmpty) := rfl
theorem qTrI (i : Int) : truD (.int i) = some (i != 0) := rfl
theorem qTrN : truD .none = some false := rfl
theorem qNoN : isNon .none = true := rfl
theorem qNoT (xs : List PyData) : isNon (.tuple xs) = false := rfl
theorem qNoL (xs : List PyData) : isNon (.list xs) = false := rfl
theorem qNoI (i : Int) : isNon (.int i) = false := rfl
theorem qNoS (i : Str) : isNon (.str i) = false := rfl
theorem d01 : decide ((0 : Int) < 1) = true := rfl
theorem d0m : decide ((0 : Int) < -1) = false := rfl
theorem dm0 : decide ((-1 : Int) < 0) = true := rfl
theorem d10 : decide ((1 : Int) < 0) = false := rfl
/-- if, by a name -/
def wIfS (t : WB) (w u : WS) : WS := fun E sd => t sd fun b => if b = true then w E sd else u E sd
theorem evs_ifS {X : Cx} {pos : Pos} {c : Expr} {x y : List Stmt} {t : WB} {w u : WS} (hc : EvT X c t) (ha : EvB X x w) (hb : EvB X y u) : EvS X (.If c x y pos) (wIfS t w u) := evs_if hc ha hb
/-- behind an if the same is to hold, whichever way was gone -/
theorem if_set {t : WB} {w u : WS} {E : ED} {sd : SD} (P : SD → Prop) (h1 : ∀ E' : ED, (∀ sd, P sd → E'.nx sd) → wIfS t w u E' sd) (h2 : ∀ sd, P sd → E.nx sd) : wIfS t w u E sd := h1 E h2
end DL

set_option Elab.async false
set_option linter.all false
set_option maxRecDepth 100000
set_option maxHeartbeats 400000
/-! addresses of rows -/
namespace DL
open PySem PySem.Spec PyProof.Rows L2
variable [Tb]
/-- a tuple of whole numbers -/
def intsD (p : List Int) : PyData := .tuple (p.map PyData.int)
theorem intsD_eqv : ∀ p q : List Int, PyData.eqvAll (p.map PyData.int) (q.map PyData.int) = decide (p = q)
  | [], [] => by simp [PyData.eqvAll]
  | [], _ :: _ => by simp [PyData.eqvAll]
  | _ :: _, [] => by simp [PyData.eqvAll]
  | a :: p, b :: q => by
    simp only [List.map_cons, PyData.eqvAll, PyData.eqv, intsD_eqv p q]
    by_cases h : a = b <;> by_cases h2 : p = q <;> simp [h, h2]
theorem ints_eqv (p q : List Int) : PyData.eqv (intsD p) (intsD q) = decide (p = q) := by
  unfold intsD; simp only [PyData.eqv]; exact intsD_eqv p q
theorem ints_lay : ∀ p : List Int, PyData.canLayAll0 (p.map PyData.int) = true ∧ PyData.depthAll (p.map PyData.int) = 0
  | [] => by simp [PyData.canLayAll0, PyData.depthAll]
  | a :: p => by
    have h := ints_lay p
    simp [PyData.canLayAll0, PyData.depthAll, PyData.canLay0, PyData.depth, h.1, h.2]
theorem ints_sh (p : List Int) : SeqAt.shaped (intsD p) = true := by
  have h := ints_lay p
  unfold SeqAt.shaped intsD
  simp only [PyData.canLay0, PyData.depth, h.1, h.2, Bool.true_and]
  decide
/-- one step into a row -/
inductive Step : Rw → List Int → Rw → Prop
  | join {rs : List Rw} {r : Rw} (k : Nat) (h : rs[k]? = some r) : Step (.join rs) [(k : Int)] r
  | right {r : Rw} (i : Nat) : Step (.right r) [(i : Int)] r
  | left {r : Rw} (i : Nat) : Step (.left r) [(i : Int)] r
  | mix {rs : List Rw} {r : Rw} (k n : Nat) (h : rs[n % rs.length]? = some r) : Step (.mix rs) [(k : Int), ((n + 1 : Nat) : Int)] r
def Rw.isL : Rw → Bool | .let _ => true | _ => false
def Rw.isM : Rw → Bool | .mix _ => true | _ => false
theorem Step.len {r s : Rw} {key : List Int} (h : Step r key s) : key.length = (if r.isM then 2 else 1) := by cases h <;> rfl
theorem Step.dep {r s : Rw} {key : List Int} (h : Step r key s) : s.dep < r.dep := by
  cases h with
  | join k h => have := Rw.dep_mem (List.mem_of_getElem? h); simp only [Rw.dep]; omega
  | right i => simp only [Rw.dep]; omega
  | left i => simp only [Rw.dep]; omega
  | mix k n h => have := Rw.dep_mem (List.mem_of_getElem? h); simp only [Rw.dep]; omega
theorem Step.nodes {r s : Rw} {key : List Int} (h : Step r key s) : s.nodes < r.nodes := by
  cases h with
  | join k h => have := Rw.nodes_mem (List.mem_of_getElem? h); simp only [Rw.nodes]; omega
  | right i => simp only [Rw.nodes]; omega
  | left i => simp only [Rw.nodes]; omega
  | mix k n h => have := Rw.nodes_mem (List.mem_of_getElem? h); simp only [Rw.nodes]; omega
theorem Step.wf {r s : Rw} {key : List Int} (h : Step r key s) (w : r.wf = true) : s.wf = true := by
  cases h with
  | join k h => exact r_wf_mem w (List.mem_of_getElem? h)
  | right i => simpa only [Rw.wf] using w
  | left i => simpa only [Rw.wf] using w
  | mix k n h => exact r_wf_mix w (List.mem_of_getElem? h)
where
  r_wf_mem {rs : List Rw} {r : Rw} (w : (Rw.join rs).wf = true) (m : r ∈ rs) : r.wf = true := by
    simp only [Rw.wf, Bool.and_eq_true] at w; exact wf_mem w.2 m
  r_wf_mix {rs : List Rw} {r : Rw} (w : (Rw.mix rs).wf = true) (m : r ∈ rs) : r.wf = true := by
    simp only [Rw.wf, Bool.and_eq_true] at w; exact wf_mem w.2 m
/-- the way to an address: the steps, with what is gone ahead of each, and the letter there -/
inductive Way : Rw → List Int → Nat → List (Rw × List Int × Nat) → Fin 26 → Prop
  | let (c : Fin 26) (n : Nat) : Way (.let c) [] n [] c
  | step {r s : Rw} {key p : List Int} {n : Nat} {ss : List (Rw × List Int × Nat)} {c : Fin 26} (h : Step r key s) (t : Way s p (n + key.length) ss c) : Way r (key ++ p) n ((r, key, n) :: ss) c
/-- an address -/
inductive Ad : Rw → List Int → Prop
  | let (c : Fin 26) : Ad (.let c) []
  | step {r s : Rw} {key p : List Int} (h : Step r key s) (t : Ad s p) : Ad r (key ++ p)
theorem Ad.way {r : Rw} {p : List Int} (h : Ad r p) : ∀ n, ∃ ss c, Way r p n ss c := by
  induction h with
  | «let» c => exact fun n => ⟨[], c, .let c n⟩
  | step h t ih =>
    intro n
    obtain ⟨ss, c, w⟩ := ih (n + _)
    exact ⟨_, c, .step h w⟩
theorem Way.ad {r : Rw} {p : List Int} {n : Nat} {ss : List (Rw × List Int × Nat)} {c : Fin 26} (h : Way r p n ss c) : Ad r p := by
  induction h with
  | «let» c n => exact .let c
  | step h t ih => exact .step h ih
def stepD (x : Rw × List Int × Nat) : PyData := .tuple [x.1.toD, intsD x.2.1, .int x.2.2]
/-- slices of tuples of numbers -/
theorem cut_mid {α : Type} (pre key post : List α) : cutD (pre ++ (key ++ post)) (some (pre.length : Int)) (some ((pre.length : Int) + (key.length : Int))) = key := by
  unfold cutD
  have e1 : HT.sIx (pre ++ (key ++ post)).length 0 (some (pre.length : Int)) = pre.length := by
    show (if (pre.length : Int) < 0 then ((pre.length : Int) + ((pre ++ (key ++ post)).length : Int)).toNat else min (pre.length : Int).toNat (pre ++ (key ++ post)).length) = _
    rw [if_neg (by omega), Int.toNat_natCast]
    simp only [List.length_append]; omega
  have e2 : HT.sIx (pre ++ (key ++ post)).length (pre ++ (key ++ post)).length (some ((pre.length : Int) + (key.length : Int))) = pre.length + key.length := by
    show (if ((pre.length : Int) + (key.length : Int)) < 0 then (((pre.length : Int) + (key.length : Int)) + ((pre ++ (key ++ post)).length : Int)).toNat else min ((pre.length : Int) + (key.length : Int)).toNat (pre ++ (key ++ post)).length) = _
    rw [if_neg (by omega)]
    simp only [List.length_append]; omega
  rw [e1, e2, List.drop_left, Nat.add_sub_cancel_left, List.take_left]
theorem cutD_map {α β : Type} (f : α → β) (xs : List α) (lo hi : Option Int) : cutD (xs.map f) lo hi = (cutD xs lo hi).map f := by
  unfold cutD
  rw [List.length_map, ← List.map_drop, ← List.map_take]
theorem cut_to {α : Type} (xs : List α) (k : Nat) : cutD xs none (some (k : Int)) = xs.take k := by
  unfold cutD
  have e1 : HT.sIx xs.length xs.length (some (k : Int)) = min k xs.length := by
    show (if (k : Int) < 0 then ((k : Int) + (xs.length : Int)).toNat else min (k : Int).toNat xs.length) = _
    rw [if_neg (by omega), Int.toNat_natCast]
  have e2 : HT.sIx xs.length 0 none = 0 := rfl
  rw [e1, e2, List.drop_zero, Nat.sub_zero]
  rcases Nat.le_total k xs.length with h | h
  · rw [Nat.min_eq_left h]
  · rw [Nat.min_eq_right h, List.take_of_length_le (Nat.le_refl _), List.take_of_length_le h]
theorem cut_from {α : Type} (xs : List α) (k : Nat) : cutD xs (some (k : Int)) none = xs.drop k := by
  unfold cutD
  have e1 : HT.sIx xs.length 0 (some (k : Int)) = min k xs.length := by
    show (if (k : Int) < 0 then ((k : Int) + (xs.length : Int)).toNat else min (k : Int).toNat xs.length) = _
    rw [if_neg (by omega), Int.toNat_natCast]
  have e2 : HT.sIx xs.length xs.length none = xs.length := rfl
  rw [e1, e2]
  rcases Nat.le_total k xs.length with h | h
  · rw [Nat.min_eq_left h]
    exact List.take_of_length_le (by rw [List.length_drop]; omega)
  · rw [Nat.min_eq_right h, List.drop_of_length_le (Nat.le_refl _), List.drop_of_length_le h]
    simp
/-- items -/
theorem rdIx_lst {xs : List PyData} {n : Nat} {v : PyData} {Q : RV → Prop} (h : xs[n]? = some v) (q : Q (.va v)) : rdIx (.list xs) (.int (n : Int)) Q := by
  simp only [rdIx, L2.atI_nat h]; exact q
theorem rdIx_tup {xs : List PyData} {n : Nat} {v : PyData} {Q : RV → Prop} (h : xs[n]? = some v) (q : Q (.va v)) : rdIx (.tuple xs) (.int (n : Int)) Q := by
  simp only [rdIx, L2.atI_nat h]; exact q
mutual
/-- the first place, or the last one -/
def Rw.ep (s : Bool) : Rw → Option (List Int)
  | .let _ => some []
  | .join rs => if s then (Rw.epL s rs).map ((((rs.length - 1 : Nat) : Int)) :: ·) else (Rw.epH s rs).map ((0 : Int) :: ·)
  | .right r => if s then none else (Rw.ep s r).map ((0 : Int) :: ·)
  | .left r => if s then (Rw.ep s r).map ((0 : Int) :: ·) else none
  | .mix _ => none
def Rw.epH (s : Bool) : List Rw → Option (List Int)
  | [] => none
  | r :: _ => Rw.ep s r
def Rw.epL (s : Bool) : List Rw → Option (List Int)
  | [] => none
  | r :: rs => match rs with
    | [] => Rw.ep s r
    | _ :: _ => Rw.epL s rs
end
theorem Rw.epH_eq (s : Bool) (rs : List Rw) {r : Rw} (h : rs[0]? = some r) : Rw.epH s rs = Rw.ep s r := by
  cases rs with
  | nil => cases h
  | cons a t => cases h; simp only [Rw.epH]
theorem Rw.epL_eq (s : Bool) : ∀ (rs : List Rw) {r : Rw}, rs[rs.length - 1]? = some r → Rw.epL s rs = Rw.ep s r
  | [], _, h => by simp at h
  | [a], r, h => by simp at h; subst h; simp only [Rw.epL]
  | a :: b :: t, r, h => by
    have e : (b :: t)[(b :: t).length - 1]? = some r := by
      simp only [List.length_cons, Nat.add_sub_cancel] at h ⊢
      exact h
    simp only [Rw.epL]
    exact Rw.epL_eq s (b :: t) e
theorem Rw.notStr {r : Rw} (h : r.isL = false) : isStrD r.toD = false := by cases r <;> first | rfl | cases h
theorem Rw.isStr_let (c : Fin 26) : isStrD (Rw.let c).toD = true := rfl
end DL

set_option Elab.async false
set_option linter.all false
set_option maxRecDepth 100000
set_option maxHeartbeats 400000
/-! rows turned about, ends, and what is ahead -/
namespace DL
open PySem PySem.Spec PyProof.Rows L2
variable [Tb]
mutual
def Rw.about : Rw → Rw
  | .let c => .let c
  | .join rs => .join (Rw.aboutL rs).reverse
  | .right r => .left r.about
  | .left r => .right r.about
  | .mix rs => .mix (Rw.aboutL rs)
def Rw.aboutL : List Rw → List Rw
  | [] => []
  | r :: rs => r.about :: Rw.aboutL rs
end
theorem Rw.aboutL_eq : ∀ rs : List Rw, Rw.aboutL rs = rs.map Rw.about
  | [] => rfl
  | r :: rs => by simp only [Rw.aboutL, List.map_cons, Rw.aboutL_eq rs]
theorem Rw.depL_app (rs ss : List Rw) : Rw.depL (rs ++ ss) = max (Rw.depL rs) (Rw.depL ss) := by
  induction rs with
  | nil => simp [Rw.depL]
  | cons r rs ih => simp only [List.cons_append, Rw.depL, ih]; omega
theorem Rw.depL_rev (rs : List Rw) : Rw.depL rs.reverse = Rw.depL rs := by
  induction rs with
  | nil => rfl
  | cons r rs ih => simp only [List.reverse_cons, Rw.depL_app, ih, Rw.depL]; omega
theorem Rw.wfL_rev (rs : List Rw) : Rw.wfL rs.reverse = Rw.wfL rs := by
  rw [Bool.eq_iff_iff, Rw.wfL_iff, Rw.wfL_iff]
  simp
mutual
theorem Rw.about_facts : ∀ r : Rw, r.about.dep = r.dep ∧ r.about.nodes = r.nodes ∧ r.about.wf = r.wf
  | .let c => ⟨rfl, rfl, rfl⟩
  | .join rs => by
    have h := Rw.aboutL_facts rs
    simp only [Rw.about, Rw.dep, Rw.nodes, Rw.wf, Rw.depL_rev, Rw.nodesL_rev, Rw.wfL_rev, List.length_reverse, h.1, h.2.1, h.2.2.1, h.2.2.2]
    exact ⟨trivial, trivial, trivial⟩
  | .right r => by have h := Rw.about_facts r; simp only [Rw.about, Rw.dep, Rw.nodes, Rw.wf, h.1, h.2.1, h.2.2]; exact ⟨trivial, trivial, trivial⟩
  | .left r => by have h := Rw.about_facts r; simp only [Rw.about, Rw.dep, Rw.nodes, Rw.wf, h.1, h.2.1, h.2.2]; exact ⟨trivial, trivial, trivial⟩
  | .mix rs => by
    have h := Rw.aboutL_facts rs
    simp only [Rw.about, Rw.dep, Rw.nodes, Rw.wf, h.1, h.2.1, h.2.2.1, h.2.2.2]
    exact ⟨trivial, trivial, trivial⟩
theorem Rw.aboutL_facts : ∀ rs : List Rw, Rw.depL (Rw.aboutL rs) = Rw.depL rs ∧ Rw.nodesL (Rw.aboutL rs) = Rw.nodesL rs ∧ Rw.wfL (Rw.aboutL rs) = Rw.wfL rs ∧ (Rw.aboutL rs).length = rs.length
  | [] => ⟨rfl, rfl, rfl, rfl⟩
  | r :: rs => by
    have h := Rw.about_facts r
    have t := Rw.aboutL_facts rs
    simp only [Rw.aboutL, Rw.depL, Rw.nodesL, Rw.wfL, List.length_cons, h.1, h.2.1, h.2.2, t.1, t.2.1, t.2.2.1, t.2.2.2]
    exact ⟨trivial, trivial, trivial, trivial⟩
end
mutual
/-- the letter at an end -/
def Rw.el (s : Bool) : Rw → Option (_root_.Fin 26)
  | .let c => some c
  | .join rs => if s then Rw.elL s rs else Rw.elH s rs
  | .right r => if s then none else Rw.el s r
  | .left r => if s then Rw.el s r else none
  | .mix _ => none
def Rw.elH (s : Bool) : List Rw → Option (_root_.Fin 26)
  | [] => none
  | r :: _ => Rw.el s r
def Rw.elL (s : Bool) : List Rw → Option (_root_.Fin 26)
  | [] => none
  | r :: rs => match rs with
    | [] => Rw.el s r
    | _ :: _ => Rw.elL s rs
end
theorem Rw.elH_eq (s : Bool) (rs : List Rw) {r : Rw} (h : rs[0]? = some r) : Rw.elH s rs = Rw.el s r := by
  cases rs with
  | nil => cases h
  | cons a t => cases h; simp only [Rw.elH]
theorem Rw.elL_eq (s : Bool) : ∀ (rs : List Rw) {r : Rw}, rs[rs.length - 1]? = some r → Rw.elL s rs = Rw.el s r
  | [], _, h => by simp at h
  | [a], r, h => by simp at h; subst h; simp only [Rw.elL]
  | a :: b :: t, r, h => by
    have e : (b :: t)[(b :: t).length - 1]? = some r := by
      simp only [List.length_cons, Nat.add_sub_cancel] at h ⊢
      exact h
    simp only [Rw.elL]
    exact Rw.elL_eq s (b :: t) e
theorem ends_of (rs : List Rw) : rs = [] ∨ ∃ f l, rs[0]? = some f ∧ rs[rs.length - 1]? = some l ∧ f ∈ rs ∧ l ∈ rs := by
  cases rs with
  | nil => exact .inl rfl
  | cons a t =>
    have h2 : (a :: t).length - 1 < (a :: t).length := by simp
    exact .inr ⟨a, (a :: t)[(a :: t).length - 1], rfl, List.getElem?_eq_getElem h2, List.mem_cons_self, List.getElem_mem h2⟩
theorem rev_last {α : Type} (xs : List α) {f : α} (h : xs[0]? = some f) : xs.reverse[xs.reverse.length - 1]? = some f := by
  cases xs with
  | nil => cases h
  | cons a t => cases h; simp
theorem rev_first {α : Type} (xs : List α) {l : α} (h : xs[xs.length - 1]? = some l) : xs.reverse[0]? = some l := by
  rw [List.getElem?_reverse (by
    cases xs with
    | nil => simp at h
    | cons a t => simp)]
  simpa using h
theorem rw_ind {P : Rw → Prop} (h : ∀ r, (∀ s, s.nodes < r.nodes → P s) → P r) (r : Rw) : P r := by
  have key : ∀ n (r : Rw), r.nodes ≤ n → P r := by
    intro n
    induction n with
    | zero => intro r hr; have := r.nodes_pos; omega
    | succ n ih => exact fun r hr => h r fun s hs => ih s (by omega)
  exact key _ r (Nat.le_refl _)
theorem about_ends (r : Rw) : ∀ s : Bool, (r.about.ep (!s)).isSome = (r.ep s).isSome ∧ r.about.el (!s) = r.el s := by
  refine rw_ind (P := fun r => ∀ s : Bool, (r.about.ep (!s)).isSome = (r.ep s).isSome ∧ r.about.el (!s) = r.el s) (fun r ih s => ?_) r
  cases r with
  | «let» c => simp only [Rw.about, Rw.ep, Rw.el]; exact ⟨trivial, trivial⟩
  | mix rs => simp only [Rw.about, Rw.ep, Rw.el]; exact ⟨trivial, trivial⟩
  | right r =>
    have h := ih r (by simp only [Rw.nodes]; omega) s
    cases s
    · simp only [Rw.about, Rw.ep, Rw.el, Bool.not_false, if_true, Bool.false_eq_true, if_false, Option.isSome_map]; exact h
    · simp only [Rw.about, Rw.ep, Rw.el, Bool.not_true, if_true, Bool.false_eq_true, if_false]; exact ⟨trivial, trivial⟩
  | left r =>
    have h := ih r (by simp only [Rw.nodes]; omega) s
    cases s
    · simp only [Rw.about, Rw.ep, Rw.el, Bool.not_false, if_true, Bool.false_eq_true, if_false]; exact ⟨trivial, trivial⟩
    · simp only [Rw.about, Rw.ep, Rw.el, Bool.not_true, if_true, Bool.false_eq_true, if_false, Option.isSome_map]; exact h
  | join rs =>
    rcases ends_of rs with rfl | ⟨f, l, hf, hl, mf, ml⟩
    · cases s <;> simp [Rw.about, Rw.aboutL, Rw.ep, Rw.el, Rw.epH, Rw.epL, Rw.elH, Rw.elL]
    have nf := Rw.nodes_mem mf
    have nl := Rw.nodes_mem ml
    have af : (rs.map Rw.about)[0]? = some f.about := by rw [List.getElem?_map, hf]; rfl
    have al : (rs.map Rw.about)[(rs.map Rw.about).length - 1]? = some l.about := by rw [List.length_map, List.getElem?_map, hl]; rfl
    cases s
    · have h := ih f (by simp only [Rw.nodes]; omega) false
      simp only [Rw.about, Rw.aboutL_eq, Rw.ep, Rw.el, Bool.not_false, if_true, Bool.false_eq_true, if_false, Option.isSome_map]
      rw [Rw.epL_eq true _ (rev_last _ af), Rw.elL_eq true _ (rev_last _ af), Rw.epH_eq false rs hf, Rw.elH_eq false rs hf]
      exact h
    · have h := ih l (by simp only [Rw.nodes]; omega) true
      simp only [Rw.about, Rw.aboutL_eq, Rw.ep, Rw.el, Bool.not_true, if_true, Bool.false_eq_true, if_false, Option.isSome_map]
      rw [Rw.epH_eq false _ (rev_first _ al), Rw.elH_eq false _ (rev_first _ al), Rw.epL_eq true rs hl, Rw.elL_eq true rs hl]
      exact h
/-- the step that an end takes -/
theorem ep_first {s : Bool} {r : Rw} {p : List Int} (h : r.ep s = some p) : (∃ c, r = .let c ∧ p = []) ∨ ∃ (k : Nat) (t : Rw) (p' : List Int), Step r [(k : Int)] t ∧ t.ep s = some p' ∧ p = (k : Int) :: p' ∧ r.el s = t.el s ∧ k ≤ r.nodes ∧
    (∀ key t', Step r key t' → ∃ j : Nat, key = [(j : Int)] ∧ (j = k ∨ (match r with | .left _ => k < j ∧ s = true | .right _ => k < j ∧ s = false | .join _ => if s then j < k else k < j | _ => False))) := by
  cases r with
  | «let» c => simp only [Rw.ep, Option.some.injEq] at h; exact .inl ⟨c, rfl, h.symm⟩
  | mix rs => simp only [Rw.ep] at h; cases h
  | right r =>
    right
    cases s
    · simp only [Rw.ep, Bool.false_eq_true, if_false, Option.map_eq_some_iff] at h
      obtain ⟨p', h1, rfl⟩ := h
      refine ⟨0, r, p', .right 0, h1, rfl, by simp only [Rw.el, Bool.false_eq_true, if_false], Nat.zero_le _, fun key t' st => ?_⟩
      cases st with
      | right i => exact ⟨i, rfl, by cases i with | zero => exact .inl rfl | succ i => exact .inr ⟨by omega, rfl⟩⟩
    · simp only [Rw.ep, if_true] at h; cases h
  | left r =>
    right
    cases s
    · simp only [Rw.ep, Bool.false_eq_true, if_false] at h; cases h
    · simp only [Rw.ep, if_true, Option.map_eq_some_iff] at h
      obtain ⟨p', h1, rfl⟩ := h
      refine ⟨0, r, p', .left 0, h1, rfl, by simp only [Rw.el, if_true], Nat.zero_le _, fun key t' st => ?_⟩
      cases st with
      | left i => exact ⟨i, rfl, by cases i with | zero => exact .inl rfl | succ i => exact .inr ⟨by omega, rfl⟩⟩
  | join rs =>
    right
    rcases ends_of rs with rfl | ⟨f, l, hf, hl, mf, ml⟩
    · cases s <;> simp [Rw.ep, Rw.epH, Rw.epL] at h
    have hlen := Rw.len_le rs
    cases s
    · simp only [Rw.ep, Bool.false_eq_true, if_false, Option.map_eq_some_iff] at h
      rw [Rw.epH_eq false rs hf] at h
      obtain ⟨p', h1, rfl⟩ := h
      refine ⟨0, f, p', .join 0 hf, h1, rfl, by simp only [Rw.el, Bool.false_eq_true, if_false]; exact Rw.elH_eq false rs hf, Nat.zero_le _, fun key t' st => ?_⟩
      cases st with
      | join i hi => exact ⟨i, rfl, by cases i with | zero => exact .inl rfl | succ i => exact .inr (by simp)⟩
    · simp only [Rw.ep, if_true, Option.map_eq_some_iff] at h
      rw [Rw.epL_eq true rs hl] at h
      obtain ⟨p', h1, rfl⟩ := h
      refine ⟨rs.length - 1, l, p', .join _ hl, h1, rfl, by simp only [Rw.el, if_true]; exact Rw.elL_eq true rs hl, by simp only [Rw.nodes]; omega, fun key t' st => ?_⟩
      cases st with
      | join i hi =>
        have := (List.getElem?_eq_some_iff.mp hi).1
        refine ⟨i, rfl, ?_⟩
        by_cases e : i = rs.length - 1
        · exact .inl e
        · exact .inr (by simp only [if_true]; omega)
theorem ep_way {s : Bool} (r : Rw) : ∀ {p : List Int} (n : Nat), r.ep s = some p → ∃ ss c, Way r p n ss c ∧ r.el s = some c := by
  refine rw_ind (P := fun r => ∀ {p : List Int} (n : Nat), r.ep s = some p → ∃ ss c, Way r p n ss c ∧ r.el s = some c) (fun r ih p n h => ?_) r
  rcases ep_first h with ⟨c, rfl, rfl⟩ | ⟨k, t, p', st, h1, rfl, h2, _, _⟩
  · exact ⟨[], c, .let c n, by simp only [Rw.el]⟩
  · obtain ⟨ss, c, w, e⟩ := ih t st.nodes (n + [(k : Int)].length) h1
    exact ⟨_, c, .step (key := [(k : Int)]) st w, by rw [h2]; exact e⟩
/-- one address is ahead of another: by the first step that differs, not in a mix -/
def keyA : Rw → List Int → List Int → Bool
  | .left _, a :: _, b :: _ => decide (a > b)
  | _, a :: _, b :: _ => decide (a < b)
  | _, _, _ => false
inductive Ahd : Rw → List Int → List Int → Bool → Prop
  | let (c : _root_.Fin 26) : Ahd (.let c) [] [] false
  | same {r s : Rw} {key p q : List Int} {b : Bool} (h : Step r key s) (t : Ahd s p q b) : Ahd r (key ++ p) (key ++ q) b
  | diff {r s s' : Rw} {k k' p q : List Int} (h : Step r k s) (h' : Step r k' s') (n : k ≠ k') (m : r.isM = false) : Ahd r (k ++ p) (k' ++ q) (keyA r k k')
theorem Step.det {r s s' : Rw} {key : List Int} (h : Step r key s) (h' : Step r key s') : s = s' := by
  generalize e : key = key' at h'
  cases h with
  | join k h =>
    cases h' with
    | join k' h' =>
      have : k = k' := by have := (List.cons.inj e).1; omega
      subst this
      rw [h] at h'; cases h'; rfl
  | right i => cases h'; rfl
  | left i => cases h'; rfl
  | mix k n h =>
    cases h' with
    | mix k' n' h' =>
      have e2 : k = k' ∧ n = n' := by have h1 := (List.cons.inj e).1; have h2 := (List.cons.inj (List.cons.inj e).2).1; omega
      obtain ⟨rfl, rfl⟩ := e2
      rw [h] at h'; cases h'; rfl
theorem ahd_first (r : Rw) : ∀ {p q : List Int}, r.ep false = some p → Ad r q → p ≠ q → Ahd r p q true := by
  refine rw_ind (P := fun r => ∀ {p q : List Int}, r.ep false = some p → Ad r q → p ≠ q → Ahd r p q true) (fun r ih p q h a n => ?_) r
  rcases ep_first h with ⟨c, rfl, rfl⟩ | ⟨k, t, p', st, h1, rfl, h2, hk, all⟩
  · cases a with
    | «let» c => exact absurd rfl n
    | step h t => cases h
  · cases a with
    | «let» c => cases st
    | @step _ s key q' hs tq =>
      obtain ⟨j, rfl, hj⟩ := all _ _ hs
      by_cases e : j = k
      · subst e
        have := hs.det st
        subst this
        exact .same (key := [(j : Int)]) hs (ih s hs.nodes h1 tq fun z => n (by rw [z]; rfl))
      · have hlt : k < j := by
          rcases hj with z | z
          · exact absurd z e
          · cases r <;> simp at z <;> first | exact z | (cases z) | skip
        have e1 : keyA r [(k : Int)] [(j : Int)] = true := by
          cases r with
          | left _ =>
            rcases hj with z | z
            · exact absurd z e
            · exact absurd z.2 (by decide)
          | _ => first | exact decide_eq_true (by omega)
        rw [← e1]
        exact .diff (k := [(k : Int)]) (k' := [(j : Int)]) st hs (fun z => e (by have := (List.cons.inj z).1; omega)) (by cases st <;> first | rfl | cases h)
theorem ahd_last (r : Rw) : ∀ {p q : List Int}, r.ep true = some p → Ad r q → q ≠ p → Ahd r q p true := by
  refine rw_ind (P := fun r => ∀ {p q : List Int}, r.ep true = some p → Ad r q → q ≠ p → Ahd r q p true) (fun r ih p q h a n => ?_) r
  rcases ep_first h with ⟨c, rfl, rfl⟩ | ⟨k, t, p', st, h1, rfl, h2, hk, all⟩
  · cases a with
    | «let» c => exact absurd rfl n
    | step h t => cases h
  · cases a with
    | «let» c => cases st
    | @step _ s key q' hs tq =>
      obtain ⟨j, rfl, hj⟩ := all _ _ hs
      by_cases e : j = k
      · subst e
        have := hs.det st
        subst this
        exact .same (key := [(j : Int)]) hs (ih s hs.nodes h1 tq fun z => n (by rw [z]; rfl))
      · have e1 : keyA r [(j : Int)] [(k : Int)] = true := by
          rcases hj with z | z
          · exact absurd z e
          · cases r with
            | left _ => exact decide_eq_true (by have := z.1; omega)
            | right _ => exact absurd z.2 (by decide)
            | join rs => simp only [if_true] at z; exact decide_eq_true (by omega)
            | mix rs => exact z.elim
            | «let» c => exact z.elim
        rw [← e1]
        exact .diff (k := [(j : Int)]) (k' := [(k : Int)]) hs st (fun z => e (by have := (List.cons.inj z).1; omega)) (by cases st <;> first | rfl | cases h)
theorem rdIx_all {xs : List PyData} {i : Int} {Q : RV → Prop} (h0 : 0 ≤ i) (h1 : i < xs.length) (h : ∀ v ∈ xs, Q (.va v)) : rdIx (.list xs) (.int i) Q := by
  obtain ⟨n, rfl⟩ := Int.eq_ofNat_of_zero_le h0
  have hn : n < xs.length := by omega
  exact rdIx_lst (List.getElem?_eq_getElem hn) (h _ (List.getElem_mem hn))
theorem rdIx_str {z : Str} {i : Int} {Q : RV → Prop} (hz : z.length ≤ sizeLine) (h0 : 0 ≤ i) (h1 : i < z.length) (h : ∀ c ∈ z.cps.toList, Q (.va (.str ⟨#[c]⟩))) : rdIx (.str z) (.int i) Q := by
  obtain ⟨n, rfl⟩ := Int.eq_ofNat_of_zero_le h0
  have hn : n < z.cps.toList.length := by have : z.length = z.cps.toList.length := by simp [Str.length]
                                          omega
  refine ⟨hz, ?_⟩
  rw [L2.atI_nat (List.getElem?_eq_getElem hn)]
  exact h _ (List.getElem_mem hn)
/-- numbers that are small -/
def Sm (p : List Int) : Prop := ∀ x ∈ p, 0 ≤ x ∧ x < 64
theorem Sm.app {p q : List Int} (h : Sm p) (h2 : Sm q) : Sm (p ++ q) := fun x m => by
  rcases List.mem_append.mp m with m | m
  · exact h x m
  · exact h2 x m
theorem Sm.nil : Sm [] := fun x m => by cases m
theorem Sm.one {x : Int} (h : 0 ≤ x ∧ x < 64) : Sm [x] := fun y m => by rw [List.mem_singleton.mp m]; exact h
theorem Sm.two {x y : Int} (h : 0 ≤ x ∧ x < 64) (h2 : 0 ≤ y ∧ y < 64) : Sm [x, y] := fun z m => by
  rcases List.mem_cons.mp m with rfl | m
  · exact h
  · rw [List.mem_singleton.mp m]; exact h2
theorem Rw.wfL_app (rs ss : List Rw) : Rw.wfL (rs ++ ss) = (Rw.wfL rs && Rw.wfL ss) := by
  induction rs with
  | nil => rfl
  | cons r rs ih => simp only [List.cons_append, Rw.wfL, ih, Bool.and_assoc]
theorem cut_pre {α : Type} (key p : List α) : cutD (key ++ p) none (some (key.length : Int)) = key := by rw [cut_to, List.take_left]
theorem cut_post {α : Type} (key p : List α) : cutD (key ++ p) (some (key.length : Int)) none = p := by rw [cut_from, List.drop_left]
theorem cut_preI (key p : List Int) : cutD ((key ++ p).map PyData.int) none (some (key.length : Int)) = key.map PyData.int := by rw [cutD_map, cut_pre]
theorem cut_postI (key p : List Int) : cutD ((key ++ p).map PyData.int) (some (key.length : Int)) none = p.map PyData.int := by rw [cutD_map, cut_post]
theorem ixC_word (r : Rw) (h : r.isL = false) {Q : RV → Prop} (q : Q (.va (.str r.word))) : ixC 0 r.toD Q := by
  cases r <;> first | exact q | cases h
theorem tup_eqv (p q : List Int) : PyData.eqv (.tuple (p.map PyData.int)) (.tuple (q.map PyData.int)) = decide (p = q) := ints_eqv p q
theorem tup_sh (p : List Int) : SeqAt.shaped (.tuple (p.map PyData.int)) = true := ints_sh p
theorem max_dep {rs : List Rw} (m : Int) (h : m ∈ rs.map (fun s => (s.dep : Int))) (h2 : ∀ y ∈ rs.map (fun s => (s.dep : Int)), y ≤ m) : m = (Rw.depL rs : Int) := by
  obtain ⟨r, hr, rfl⟩ := List.mem_map.mp h
  have h3 := Rw.dep_mem hr
  have h4 : Rw.depL rs ≤ r.dep := Rw.depL_le fun s ms => by
    have := h2 (s.dep : Int) (List.mem_map.mpr ⟨s, ms, rfl⟩)
    omega
  omega
theorem dep_eq (r : Rw) (h : r.isL = false) : r.dep = 1 + Rw.depL r.parts := by
  cases r <;> first | cases h | skip
  all_goals simp only [Rw.dep, Rw.parts, Rw.depL]; omega
end DL

set_option Elab.async false
set_option linter.all false
set_option maxRecDepth 100000
set_option maxHeartbeats 400000
/-! plain data of small numbers: its text, that it is equal to itself -/
namespace DL
open PySem PySem.Spec PyProof.Rows L2
variable [Tb]
/-- a place, or none -/
def optD : Option (List Int) → PyData
  | some p => intsD p
  | none => .none
def smI (i : Int) : Bool := decide (-128 ≤ i ∧ i < 128)
mutual
def pl : PyData → Bool
  | .none => true
  | .bool _ => true
  | .int i => smI i
  | .str s => PyData.strOk s && PyData.strOk (reprText s)
  | .list ds => plL ds
  | .tuple ds => plL ds
  | .dict _ => false
def plL : List PyData → Bool
  | [] => true
  | d :: ds => pl d && plL ds
end
mutual
def wt : PyData → Nat
  | .none => 4
  | .bool _ => 5
  | .int _ => 4
  | .str s => (reprText s).length
  | .list ds => wtL ds + 3
  | .tuple ds => wtL ds + 3
  | .dict _ => 0
def wtL : List PyData → Nat
  | [] => 0
  | d :: ds => wt d + 2 + wtL ds
end
theorem sm_facts : ∀ n : _root_.Fin 256, (PyData.int ((n.val : Int) - 128)).showable = true ∧ (PyData.int ((n.val : Int) - 128)).shown.length ≤ 4 ∧ PyData.strOk (PyData.int ((n.val : Int) - 128)).shown = true := by decide +kernel
theorem sm_int {i : Int} (h : smI i = true) : (PyData.int i).showable = true ∧ (PyData.int i).shown.length ≤ 4 ∧ PyData.strOk (PyData.int i).shown = true := by
  have h := of_decide_eq_true h
  have e : i = (((i + 128).toNat : Nat) : Int) - 128 := by omega
  have := sm_facts ⟨(i + 128).toNat, by omega⟩
  rw [e]
  exact this
theorem tx_bool : ∀ b : Bool, (PyData.bool b).shown.length ≤ 5 ∧ PyData.strOk (PyData.bool b).shown = true := by decide +kernel
mutual
theorem pl_facts : ∀ d : PyData, pl d = true → d.showable = true ∧ d.canLay0 = true ∧ d.shown.length ≤ wt d ∧ PyData.strOk d.shown = true ∧ PyData.eqv d d = true
  | .none, _ => ⟨rfl, rfl, by decide +kernel, ok_shownN, eqv_non⟩
  | .bool b, _ => ⟨rfl, rfl, (tx_bool b).1, (tx_bool b).2, by simp [PyData.eqv]⟩
  | .int i, h => by
    simp only [pl] at h
    have := sm_int h
    exact ⟨this.1, rfl, this.2.1, this.2.2, by simp [PyData.eqv]⟩
  | .str s, h => by
    simp only [pl, Bool.and_eq_true] at h
    exact ⟨rfl, h.1, Nat.le_refl _, h.2, eqv_str_self s⟩
  | .list ds, h => by
    simp only [pl] at h
    have t := plL_facts ds h
    have hl := list_len (PyData.shownAll ds)
    simp only [PyData.showable, PyData.canLay0, PyData.shown, wt, PyData.eqv]
    exact ⟨t.1, t.2.1, by omega, ok_lst t.2.2.2.1, t.2.2.2.2⟩
  | .tuple ds, h => by
    simp only [pl] at h
    have t := plL_facts ds h
    have hl := tup_len (PyData.shownAll ds)
    simp only [PyData.showable, PyData.canLay0, PyData.shown, wt, PyData.eqv]
    exact ⟨t.1, t.2.1, by omega, ok_tup t.2.2.2.1, t.2.2.2.2⟩
  | .dict _, h => by simp [pl] at h
theorem plL_facts : ∀ ds : List PyData, plL ds = true → PyData.showableAll ds = true ∧ PyData.canLayAll0 ds = true ∧ sumLen (PyData.shownAll ds) ≤ wtL ds ∧ okAll (PyData.shownAll ds) ∧ PyData.eqvAll ds ds = true
  | [], _ => ⟨rfl, rfl, Nat.le_refl _, trivial, by simp [PyData.eqvAll]⟩
  | d :: ds, h => by
    simp only [plL, Bool.and_eq_true] at h
    have h1 := pl_facts d h.1
    have t := plL_facts ds h.2
    simp only [PyData.showableAll, PyData.canLayAll0, PyData.shownAll, sumLen, wtL, okAll, PyData.eqvAll, h1.1, t.1, h1.2.1, t.2.1, h1.2.2.2.2, t.2.2.2.2, Bool.and_self, true_and, and_true]
    exact ⟨by have := h1.2.2.1; have := t.2.2.1; omega, h1.2.2.2.1, t.2.2.2.1⟩
end
theorem good_pl {d : PyData} (h : pl d = true) (hd : d.depth ≤ 64) (hw : wt d ≤ 10000000) : Good d := by
  have t := pl_facts d h
  have e := sizeLine_eq
  have s : SeqAt.shaped d = true := by
    unfold SeqAt.shaped
    rw [t.2.1, Bool.true_and]
    exact decide_eq_true hd
  exact ⟨⟨⟨t.1, s⟩, by have := t.2.2.1; omega⟩, s, sh_str t.2.2.2.1, t.2.2.2.2⟩
/-! ### tuples of small numbers -/
theorem pl_ints {p : List Int} (h : Sm p) : pl (intsD p) = true ∧ (intsD p).depth ≤ 1 ∧ wt (intsD p) = 6 * p.length + 3 := by
  have key : ∀ p : List Int, Sm p → plL (p.map PyData.int) = true ∧ wtL (p.map PyData.int) = 6 * p.length := by
    intro p
    induction p with
    | nil => intro _; exact ⟨rfl, rfl⟩
    | cons a p ih =>
      intro h
      have t := ih fun x m => h x (List.mem_cons_of_mem _ m)
      have ha := h a List.mem_cons_self
      simp only [List.map_cons, plL, wtL, pl, wt, t.1, t.2, List.length_cons, Bool.and_true]
      exact ⟨decide_eq_true (by omega), by omega⟩
  have k := key p h
  unfold intsD
  simp only [pl, wt, PyData.depth, k.1, k.2, (ints_lay p).2]
  exact ⟨trivial, by omega, trivial⟩
theorem pl_opt {o : Option (List Int)} (h : ∀ p, o = some p → Sm p ∧ p.length ≤ 100) : pl (optD o) = true ∧ (optD o).depth ≤ 1 ∧ wt (optD o) ≤ 700 := by
  cases o with
  | none => exact ⟨rfl, by simp [optD, PyData.depth], by simp [optD, wt]⟩
  | some p =>
    have hp := h p rfl
    have := pl_ints hp.1
    show pl (intsD p) = true ∧ _ ∧ _
    exact ⟨this.1, this.2.1, by show wt (intsD p) ≤ 700; omega⟩
theorem ep_sm {s : Bool} (r : Rw) : ∀ {p : List Int}, r.ep s = some p → (∀ x ∈ p, 0 ≤ x ∧ x ≤ r.nodes) ∧ p.length ≤ r.dep := by
  refine rw_ind (P := fun r => ∀ {p : List Int}, r.ep s = some p → (∀ x ∈ p, 0 ≤ x ∧ x ≤ r.nodes) ∧ p.length ≤ r.dep) (fun r ih p h => ?_) r
  rcases ep_first h with ⟨c, rfl, rfl⟩ | ⟨k, t, p', st, h1, rfl, h2, hk, _⟩
  · exact ⟨fun x m => (by cases m), Nat.zero_le _⟩
  · have := ih t st.nodes h1
    have hn := st.nodes
    have hd := st.dep
    refine ⟨fun x m => ?_, by simp only [List.length_cons]; omega⟩
    rcases List.mem_cons.mp m with rfl | m
    · omega
    · have := this.1 x m; omega
theorem good_opts {o1 o2 : Option (List Int)} (h1 : ∀ p, o1 = some p → Sm p ∧ p.length ≤ 100) (h2 : ∀ p, o2 = some p → Sm p ∧ p.length ≤ 100) : Good (.list [optD o1, optD o2]) := by
  have a := pl_opt h1
  have b := pl_opt h2
  refine good_pl ?_ ?_ ?_
  · simp only [pl, plL, a.1, b.1, Bool.and_self]
  · simp only [PyData.depth, PyData.depthAll]; omega
  · simp only [wt, wtL]; omega
/-- rows walked in a comprehension with a test -/
theorem lcW_rowsF {α : Type} {g : WG} {t : WB} {we : WR} {sd : SD} (to : α → PyData) (f : α → Bool) : ∀ (rs : List α) (Q : List PyData → Prop),
    (∀ r ∈ rs, ∀ (A : PyData → Prop) (B : Prop), (if f r = true then A (to r) else B) → g (to r) sd fun sd2 => t sd2 fun b => if b = true then we sd2 (fun z => A z.dat) else B) →
    Q ((rs.filter f).map to) → lcW g t we sd (rs.map to) Q
  | [], Q, _, q => q
  | r :: rs, Q, h, q => by
    refine h r List.mem_cons_self (fun x => lcW g t we sd (rs.map to) fun out => Q (x :: out)) _ ?_
    have ih : ∀ Q' : List PyData → Prop, Q' ((rs.filter f).map to) → lcW g t we sd (rs.map to) Q' := fun Q' q' => lcW_rowsF to f rs Q' (fun e m => h e (List.mem_cons_of_mem _ m)) q'
    by_cases e : f r = true
    · rw [if_pos e]
      refine ih _ ?_
      rw [List.filter_cons_of_pos e] at q
      exact q
    · rw [if_neg e]
      refine ih _ ?_
      rw [List.filter_cons_of_neg e] at q
      exact q
end DL

set_option Elab.async false
set_option linter.all false
set_option maxRecDepth 100000
set_option maxHeartbeats 400000
/-! rows laid, what is ahead of a place and behind it -/
namespace DL
open PySem PySem.Spec PyProof.Rows L2
variable [Tb]
def optR : Option Rw → PyData
  | some r => r.toD
  | none => .none
def laidR : List Rw → Option Rw
  | [] => none
  | [r] => some r
  | rs => some (.join (Rw.openedL rs))
mutual
theorem op_facts : ∀ r : Rw, (∀ s ∈ r.opened, s.opened = [s] ∧ s.dep ≤ r.dep) ∧ Rw.nodesL r.opened ≤ r.nodes
  | .let c => by simp [Rw.opened, Rw.dep, Rw.nodes, Rw.nodesL]
  | .right r => by simp [Rw.opened, Rw.dep, Rw.nodes, Rw.nodesL]
  | .left r => by simp [Rw.opened, Rw.dep, Rw.nodes, Rw.nodesL]
  | .mix rs => by simp [Rw.opened, Rw.dep, Rw.nodes, Rw.nodesL]
  | .join rs => by
    have h := opL_facts rs
    simp only [Rw.opened, Rw.dep, Rw.nodes]
    exact ⟨fun s m => ⟨(h.1 s m).1, by have := (h.1 s m).2; omega⟩, by have := h.2; omega⟩
theorem opL_facts : ∀ rs : List Rw, (∀ s ∈ Rw.openedL rs, s.opened = [s] ∧ s.dep ≤ Rw.depL rs) ∧ Rw.nodesL (Rw.openedL rs) ≤ Rw.nodesL rs
  | [] => by simp [Rw.openedL, Rw.nodesL]
  | r :: rs => by
    have h1 := op_facts r
    have h2 := opL_facts rs
    simp only [Rw.openedL, Rw.depL, Rw.nodesL, Rw.nodesL_app]
    refine ⟨fun s m => ?_, by have := h1.2; have := h2.2; omega⟩
    rcases List.mem_append.mp m with m | m
    · exact ⟨(h1.1 s m).1, by have := (h1.1 s m).2; omega⟩
    · exact ⟨(h2.1 s m).1, by have := (h2.1 s m).2; omega⟩
end
theorem laidR_facts (rs : List Rw) {t : Rw} (h : laidR rs = some t) : t.dep ≤ Rw.depL rs + 1 ∧ t.nodes ≤ Rw.nodesL rs + 1 := by
  match rs, h with
  | [r], h => cases h; simp only [Rw.depL, Rw.nodesL]; omega
  | r :: s :: rest, h =>
    cases h
    have f := opL_facts (r :: s :: rest)
    simp only [Rw.dep, Rw.nodes]
    exact ⟨by have := Rw.depL_le fun s m => (f.1 s m).2; omega, by have := f.2; omega⟩
theorem laidR_none (rs : List Rw) : laidR rs = none ↔ rs = [] := by
  match rs with
  | [] => simp [laidR]
  | [r] => simp [laidR]
  | r :: s :: rest => simp [laidR]
/-- what else is there on one side of a step -/
def beyond (s : Bool) : Rw → List Int → List Rw
  | .join rs, k :: _ => if s then rs.drop (k.toNat + 1) else rs.take k.toNat
  | .right r, i :: _ => if s then [.right r] else List.replicate i.toNat r
  | .left r, i :: _ => if s then List.replicate i.toNat r else [.left r]
  | r, _ => [r]
def sideF (s : Bool) : List (Rw × List Int × Nat) → Option Rw
  | [] => none
  | x :: ss => laidR (if s then (sideF s ss).toList ++ beyond s x.1 x.2.1 else beyond s x.1 x.2.1 ++ (sideF s ss).toList)
theorem nodesL_take (rs : List Rw) (k : Nat) : Rw.nodesL (rs.take k) + Rw.nodesL (rs.drop k) = Rw.nodesL rs := by
  rw [← Rw.nodesL_app, List.take_append_drop]
theorem repl_nodesL (r : Rw) : ∀ n : Nat, Rw.nodesL (List.replicate n r) = n * r.nodes
  | 0 => by simp [Rw.nodesL]
  | n + 1 => by rw [List.replicate_succ]; simp only [Rw.nodesL, repl_nodesL r n, Nat.succ_mul]; omega
theorem beyond_facts (s : Bool) {r t : Rw} {key : List Int} (st : Step r key t) (h : Sm key) : Rw.depL (beyond s r key) ≤ r.dep ∧ Rw.nodesL (beyond s r key) ≤ 64 * r.nodes := by
  cases st with
  | @join rs _ k hk =>
    have e : ((k : Int)).toNat = k := Int.toNat_natCast k
    have t1 := nodesL_take rs k
    have t2 := nodesL_take rs (k + 1)
    cases s
    · simp only [beyond, e, Bool.false_eq_true, if_false, Rw.dep, Rw.nodes]
      exact ⟨by have := Rw.depL_le (n := Rw.depL rs) (rs := rs.take k) fun x m => Rw.dep_mem (List.mem_of_mem_take m); omega, by omega⟩
    · simp only [beyond, e, if_true, Rw.dep, Rw.nodes]
      exact ⟨by have := Rw.depL_le (n := Rw.depL rs) (rs := rs.drop (k + 1)) fun x m => Rw.dep_mem (List.mem_of_mem_drop m); omega, by omega⟩
  | right i =>
    have hi := h _ List.mem_cons_self
    have e : ((i : Int)).toNat = i := Int.toNat_natCast i
    cases s
    · simp only [beyond, e, Bool.false_eq_true, if_false, Rw.dep, Rw.nodes, repl_nodesL]
      refine ⟨by have := Rw.depL_le (n := t.dep) (rs := List.replicate i t) fun x m => by rw [List.eq_of_mem_replicate m]; exact Nat.le_refl _
                 omega, ?_⟩
      have := Nat.mul_le_mul_right t.nodes (show i ≤ 64 by omega)
      omega
    · simp only [beyond, if_true, Rw.dep, Rw.nodes, Rw.depL, Rw.nodesL]
      omega
  | left i =>
    have hi := h _ List.mem_cons_self
    have e : ((i : Int)).toNat = i := Int.toNat_natCast i
    cases s
    · simp only [beyond, Bool.false_eq_true, if_false, Rw.dep, Rw.nodes, Rw.depL, Rw.nodesL]
      omega
    · simp only [beyond, e, if_true, Rw.dep, Rw.nodes, repl_nodesL]
      refine ⟨by have := Rw.depL_le (n := t.dep) (rs := List.replicate i t) fun x m => by rw [List.eq_of_mem_replicate m]; exact Nat.le_refl _
                 omega, ?_⟩
      have := Nat.mul_le_mul_right t.nodes (show i ≤ 64 by omega)
      omega
  | mix k n hk =>
    simp only [beyond, Rw.dep, Rw.nodes, Rw.depL, Rw.nodesL]
    omega
theorem Sm.of_app {p q : List Int} (h : Sm (p ++ q)) : Sm p ∧ Sm q := ⟨fun x m => h x (List.mem_append_left _ m), fun x m => h x (List.mem_append_right _ m)⟩
theorem toList_dep (o : Option Rw) : Rw.depL o.toList = (match o with | some t => t.dep | none => 0) := by
  cases o <;> simp [Rw.depL]
theorem toList_nodes (o : Option Rw) : Rw.nodesL o.toList = (match o with | some t => t.nodes | none => 0) := by
  cases o <;> simp [Rw.nodesL]
theorem side_facts (s : Bool) {r : Rw} {p : List Int} {n : Nat} {ss : List (Rw × List Int × Nat)} {c : _root_.Fin 26} (w : Way r p n ss c) (M : Nat) :
    Sm p → 64 * r.nodes + 1 ≤ M → ∀ t, sideF s ss = some t → t.dep ≤ r.dep + ss.length ∧ t.nodes ≤ ss.length * M := by
  induction w with
  | «let» c n => intro _ _ t h; cases h
  | @step r u key0 p n ss c st w ih =>
    intro hs hN t h
    obtain ⟨h1, h2⟩ := hs.of_app
    have hn := st.nodes
    have hd := st.dep
    have b := beyond_facts s st h1
    have i := ih h2 (by omega)
    simp only [sideF] at h
    have f := laidR_facts _ h
    have key : Rw.depL (sideF s ss).toList ≤ u.dep + ss.length ∧ Rw.nodesL (sideF s ss).toList ≤ ss.length * M := by
      rw [toList_dep, toList_nodes]
      cases e : sideF s ss with
      | none => simp
      | some v => exact i v e
    rw [List.length_cons, Nat.add_mul, Nat.one_mul]
    generalize ss.length * M = Z at key
    cases s
    · simp only [Bool.false_eq_true, if_false, Rw.depL_app, Rw.nodesL_app] at f
      omega
    · simp only [if_true, Rw.depL_app, Rw.nodesL_app] at f
      omega
/-- nothing is ahead of the first place, or behind the last one, alone -/
theorem side_none (s : Bool) {r : Rw} {p : List Int} {n : Nat} {ss : List (Rw × List Int × Nat)} {c : _root_.Fin 26} (w : Way r p n ss c) : sideF s ss = none ↔ r.ep s = some p := by
  induction w with
  | «let» c n => simp [sideF, Rw.ep]
  | @step r u key p n ss c st w ih =>
    have e1 : sideF s ((r, key, n) :: ss) = none ↔ (beyond s r key = [] ∧ sideF s ss = none) := by
      simp only [sideF]
      rw [laidR_none]
      cases s
      · simp only [Bool.false_eq_true, if_false, List.append_eq_nil_iff, Option.toList_eq_nil_iff]
      · simp only [if_true, List.append_eq_nil_iff, Option.toList_eq_nil_iff]; exact And.comm
    rw [e1, ih]
    cases st with
    | @join rs _ k hk =>
      have e : ((k : Int)).toNat = k := Int.toNat_natCast k
      have hk2 := (List.getElem?_eq_some_iff.mp hk).1
      cases s
      · simp only [beyond, e, Bool.false_eq_true, if_false, Rw.ep, List.take_eq_nil_iff, List.cons_append, List.nil_append, Option.map_eq_some_iff, List.cons.injEq]
        constructor
        · rintro ⟨z, h⟩
          have k0 : k = 0 := by
            rcases z with z | z
            · exact z
            · rw [z] at hk2; simp at hk2
          subst k0
          exact ⟨p, by rw [Rw.epH_eq false rs hk]; exact h, rfl, rfl⟩
        · rintro ⟨q, h, h0, rfl⟩
          have k0 : k = 0 := by omega
          subst k0
          rw [Rw.epH_eq false rs hk] at h
          exact ⟨.inl rfl, h⟩
      · simp only [beyond, e, if_true, Rw.ep, List.drop_eq_nil_iff, List.cons_append, List.nil_append, Option.map_eq_some_iff, List.cons.injEq]
        constructor
        · rintro ⟨z, h⟩
          have k0 : k = rs.length - 1 := by omega
          subst k0
          exact ⟨p, by rw [Rw.epL_eq true rs hk]; exact h, rfl, rfl⟩
        · rintro ⟨q, h, h0, rfl⟩
          have k0 : k = rs.length - 1 := by omega
          subst k0
          rw [Rw.epL_eq true rs hk] at h
          exact ⟨by omega, h⟩
    | right i =>
      have e : ((i : Int)).toNat = i := Int.toNat_natCast i
      cases s
      · simp only [beyond, e, Bool.false_eq_true, if_false, Rw.ep, List.replicate_eq_nil_iff, List.cons_append, List.nil_append, Option.map_eq_some_iff, List.cons.injEq]
        constructor
        · rintro ⟨rfl, h⟩; exact ⟨p, h, rfl, rfl⟩
        · rintro ⟨q, h, h0, rfl⟩; exact ⟨by omega, h⟩
      · simp [beyond, Rw.ep]
    | left i =>
      have e : ((i : Int)).toNat = i := Int.toNat_natCast i
      cases s
      · simp [beyond, Rw.ep]
      · simp only [beyond, e, if_true, Rw.ep, List.replicate_eq_nil_iff, List.cons_append, List.nil_append, Option.map_eq_some_iff, List.cons.injEq]
        constructor
        · rintro ⟨rfl, h⟩; exact ⟨p, h, rfl, rfl⟩
        · rintro ⟨q, h, h0, rfl⟩; exact ⟨by omega, h⟩
    | mix k n hk => simp [beyond, Rw.ep]
theorem ixC_wordA (r : Rw) {Q : RV → Prop} (q : Q (.va (.str r.word))) : ixC 0 r.toD Q := by
  cases r with
  | «let» c =>
    refine ⟨by show 1 ≤ sizeLine; decide, ?_⟩
    show match atI [97 + c.val] 0 with | some c => Q (.va (.str ⟨#[c]⟩)) | none => False
    rw [atI0]
    exact q
  | _ => exact q
theorem opened_not {r : Rw} (h : r.isJ = false) : r.opened = [r] := by cases r <;> first | rfl | cases h | simp only [Rw.opened]
theorem isJ_join {r : Rw} (h : r.isJ = true) : ∃ rs, r = .join rs := by cases r <;> first | exact ⟨_, rfl⟩ | cases h
mutual
theorem pl_row : ∀ r : Rw, pl r.toD = true ∧ wt r.toD + 2 ≤ 30 * r.nodes
  | .let c => by
    simp only [Rw.toD, pl, wt, Rw.nodes, ok_let, okr_let, rl_let, Bool.and_self]
    exact ⟨trivial, by omega⟩
  | .join rs => by
    have h := pl_rowL rs
    have := rl_words
    simp only [Rw.toD, pl, plL, wt, wtL, Rw.nodes, ok_sJ, okr_words.1, h.1, Bool.and_self]
    exact ⟨trivial, by omega⟩
  | .right r => by
    have h := pl_row r
    have := rl_words
    simp only [Rw.toD, pl, plL, wt, wtL, Rw.nodes, ok_sR, okr_words.2.1, h.1, Bool.and_self]
    exact ⟨trivial, by omega⟩
  | .left r => by
    have h := pl_row r
    have := rl_words
    simp only [Rw.toD, pl, plL, wt, wtL, Rw.nodes, ok_sL, okr_words.2.2.1, h.1, Bool.and_self]
    exact ⟨trivial, by omega⟩
  | .mix rs => by
    have h := pl_rowL rs
    have := rl_words
    simp only [Rw.toD, pl, plL, wt, wtL, Rw.nodes, ok_sM, okr_words.2.2.2, h.1, Bool.and_self]
    exact ⟨trivial, by omega⟩
theorem pl_rowL : ∀ rs : List Rw, plL (Rw.toDs rs) = true ∧ wtL (Rw.toDs rs) ≤ 30 * Rw.nodesL rs
  | [] => ⟨rfl, Nat.zero_le _⟩
  | r :: rs => by
    have h1 := pl_row r
    have h2 := pl_rowL rs
    simp only [Rw.toDs, plL, wtL, Rw.nodesL, h1.1, h2.1, Bool.and_self]
    exact ⟨trivial, by omega⟩
end
theorem pl_optR {o : Option Rw} (h : ∀ t, o = some t → t.dep ≤ 30 ∧ t.nodes ≤ 100000) : pl (optR o) = true ∧ (optR o).depth ≤ 60 ∧ wt (optR o) ≤ 3000000 := by
  cases o with
  | none => exact ⟨rfl, by simp [optR, PyData.depth], by simp [optR, wt]⟩
  | some t =>
    have ht := h t rfl
    have a := pl_row t
    have b := t.lay
    show pl t.toD = true ∧ t.toD.depth ≤ 60 ∧ wt t.toD ≤ 3000000
    exact ⟨a.1, by have := b.2; omega, by have := a.2; omega⟩
theorem good_optRs {a b : Option Rw} (h1 : ∀ t, a = some t → t.dep ≤ 30 ∧ t.nodes ≤ 100000) (h2 : ∀ t, b = some t → t.dep ≤ 30 ∧ t.nodes ≤ 100000) : Good (.list [optR a, optR b]) := by
  have x := pl_optR h1
  have y := pl_optR h2
  refine good_pl ?_ ?_ ?_
  · simp only [pl, plL, x.1, y.1, Bool.and_self]
  · simp only [PyData.depth, PyData.depthAll]; omega
  · simp only [wt, wtL]; omega
theorem dEq_opt {p : List Int} {o : Option (List Int)} {Q : Bool → Prop} (q : Q (decide (o = some p))) : dEq (intsD p) (optD o) Q := by
  cases o with
  | none =>
    have e : decide (none = some p) = false := decide_eq_false (by simp)
    rw [e] at q
    exact ⟨⟨ints_sh p, sh_non⟩, by show Q (PyData.eqv (.tuple (p.map PyData.int)) .none); simpa only [PyData.eqv] using q⟩
  | some x =>
    refine ⟨⟨ints_sh p, ints_sh x⟩, ?_⟩
    show Q (PyData.eqv (intsD p) (intsD x))
    rw [ints_eqv]
    have e : decide (p = x) = decide (some x = some p) := by
      by_cases h : p = x
      · subst h; simp
      · rw [decide_eq_false h, decide_eq_false (fun z => h (Option.some.inj z).symm)]
    rw [e]; exact q
end DL

set_option Elab.async false
set_option linter.all false
set_option maxRecDepth 100000
set_option maxHeartbeats 4000000
/-! the law's end where defs have tables of code objects that grow -/
namespace DL
open PySem PySem.Spec PyProof.Rows L2
abbrev eTab : Obj := { cls := .none, data := .fields #[] }
/-- what the law is asked: some ints, the tables there, True -/
def spLaw [Tb] (K : PySem.W.Frag) : Sp := fun vs H Q _ => ∃ (a : Addr) (ns : List Int), vs = [.ref a] ∧ SqL K H a (ns.map V.int) ∧ ns.length ≤ 63 ∧ (∀ P ∈ (Tb.Ts : List Addr), GxR.TabG H P) ∧ ∀ H', Q (.bl true) H'
theorem tabG_new {H : Hp} {P : Addr} (h : H P = some (.tbl #[])) : GxR.TabG H P := ⟨#[], h, by first | exact .nil | exact True.intro | simp [TriplesOk]⟩
structure TabsAt (K : PySem.W.Frag) (h : Heap) (cs : List (Addr × Addr)) : Prop where
  emp : ∀ p ∈ cs, h.get? p.2 = some eTab
  out : ∀ p ∈ cs, K.lookup p.2 = none
  hd : ∀ p ∈ cs, PySem.W.CodeHd h p.1 p.2
theorem lawT_call {P : Program} {w : World} {K : PySem.W.Frag} {mg mb : Str → Option Value} {k : Nat} {fa a : Addr} {cs : List (Addr × Addr)} {fd : FuncData} {x : Str} {sp : Sp} {s₁ : Shared} {vs : List Value} {ns : List Int}
    (KX : K.In s₁.heap) (gl : s₁.heap.Ns mainGlobals mg) (bl : s₁.heap.Ns builtinsNs mb) (boot : ∀ x : Str, x ≠ "__name__" → mb x = bootBuiltins x) (lim : s₁.heap.NoLimit) (ng : s₁.gens = #[]) (T : TabsAt K s₁.heap cs)
    (mn : ∃ (bm : Addr) (ob : Obj), mg "__builtins__" = some (.ref bm) ∧ bm ≠ builtinsNs ∧ s₁.heap.get? bm = some ob ∧ ob.cls = .type "module" ∧ ob.dict = some builtinsNs ∧ ob.data = .plain)
    (here : s₁.heap.get? a = some { cls := .type "list", data := .seq vs.toArray }) (ia : IntsAre vs ns) (hl : ns.length ≤ sizeLine) (hr : RmG k callerA)
    (F : ∀ base : Heap, K.In base → base.Ns mainGlobals mg → (∀ p ∈ cs, GxR.TabB base mg p.1 p.2) → FnG P w K mg base CX0 k fa fd [x] sp) (bind : ∀ (s : Shared) (u : Value), BindsTo s fd ⟨[u], []⟩ [(x, u)])
    (ask : ∀ H : Hp, (∀ p ∈ cs, H p.2 = some (.tbl #[])) → SqL K H a (ns.map V.int) → sp [.ref a] H (fun v _ => v = .bl true) fun _ _ _ => False) :
    codeAny (model P w) callerA (.call (.ref fa) ⟨[.ref a], []⟩) (fun r s' => r = .ok (.ret (.bool true)) ∧ OldK s₁.heap s'.heap ∧ s'.os = s₁.os ∧ AllBare s'.gens) s₁ := by
  have rv : Vals (ns.map V.int) vs := vals_ints ia
  have lv := ia.length
  -- a place in the abstract heap holds nothing, an empty table, or the script
  suffices core : ∃ H : Hp, (∀ p ∈ cs, H p.2 = some (.tbl #[])) ∧ SqL K H a (ns.map V.int) ∧ HOk P w H s₁.heap ∧
      (∀ b u, H b = some u → (∃ p ∈ cs, b = p.2 ∧ u = .tbl #[]) ∨ (b = a ∧ K.lookup a = none ∧ ∃ o xs, u = .frz o (.lst xs))) by
    obtain ⟨H, hT, hS, hok, hA⟩ := core
    -- what stands there and is no list and no empty table is untouched
    have other : ∀ {b : Addr} {o : Obj}, s₁.heap.get? b = some o → o ≠ eTab → (∀ xs n, o.data ≠ .seq xs n) → H b = none := fun {b o} e n1 n2 => by
      cases q : H b with
      | none => rfl
      | some u =>
        rcases hA b u q with ⟨p, m, rfl, _⟩ | ⟨rfl, _, _⟩
        · rw [T.emp p m] at e; exact (n1 (Option.some.inj e).symm).elim
        · rw [here] at e; cases e; exact (n2 _ _ rfl).elim
    have kept : ∀ {b : Addr} {o : Obj}, s₁.heap.get? b = some o → H b = none → (hidT s₁.heap H).get? b = some o := hidT_get
    have dicts : ∀ {b : Addr} {o : Obj} {es : Array DictEntry} {ep : Nat}, s₁.heap.get? b = some o → o.data = .dict es ep → H b = none := fun {b o es ep} e d =>
      other e (fun z => by rw [z] at d; cases d) (fun xs n z => by rw [d] at z; cases z)
    have names : ∀ {b : Addr} {m : Str → Option Value}, s₁.heap.Ns b m → (hidT s₁.heap H).Ns b m := by
      rintro b m ⟨o, es, ep, e, d, r⟩
      exact ⟨o, es, ep, kept e (dicts e d), d, r⟩
    have inK : K.In (hidT s₁.heap H) := fun b o e => by
      refine kept (KX b o e) ?_
      cases q : H b with
      | none => rfl
      | some u =>
        rcases hA b u q with ⟨p, m, rfl, _⟩ | ⟨rfl, z, _⟩
        · rw [T.out p m] at e; cases e
        · rw [z] at e; cases e
    have tb : ∀ p ∈ cs, GxR.TabB (hidT s₁.heap H) mg p.1 p.2 := fun p m => by
      refine ⟨?_, ?_, fun z => ?_⟩
      · obtain ⟨o, us, f1, f2, f3, f4, f5, f6, f7, g1, g2, g3, g4, g5, g6, g7, g8, g9, g10⟩ := T.hd p m
        exact ⟨o, us, f1, f2, f3, f4, f5, f6, f7, kept g1 (other g1 (fun z => by rw [z] at g2; cases g2) fun xs n z => by rw [g3] at z; cases z), g2, g3, g4, g5, g6, g7, g8, g9, g10⟩
      · obtain ⟨bm, ob, b1, b2, b3, b4, b5, b6⟩ := mn
        refine ⟨bm, ob, b1, b2, fun z => ?_, fun z => ?_, kept b3 (other b3 (fun z => by rw [z] at b6; cases b6) fun xs n z => by rw [b6] at z; cases z), b4, b5, b6⟩
        · obtain ⟨o, es, ep, e, hd, _⟩ := gl
          rw [← z, b3] at e
          cases e
          rw [b6] at hd; cases hd
        · have := T.emp p m
          rw [← z, b3] at this
          cases this
          cases b6
      · obtain ⟨o, es, ep, e, hd, _⟩ := gl
        rw [z, T.emp p m] at e
        cases e
        cases hd
    obtain ⟨mc, l1, l2⟩ := lim
    have e0 : Env0 P w K mg (hidT s₁.heap H) callerA [] s₁ H :=
      ⟨rfl, ⟨inK, names gl, ⟨mb, names bl, boot⟩, mc, names l1, l2⟩, fun b o e => of_hidT e, Nat.le_of_eq (hidT_size _ _), trivial, fun b m => (by cases m), hok, .of_eq ng⟩
    apply codeAny_mono ((F _ inK (names gl) tb).run callerA [] s₁ H ⟨[.ref a], []⟩ [.ref a] [.ref a] _ _ hr e0 (bind s₁ (.ref a)) (.cons rfl .nil) (ask H hT hS))
    intro r s' h
    match r, h with
    | .error _, h => exact h.elim
    | .ok .next, h => exact h.elim
    | .ok .brk, h => exact h.elim
    | .ok .cont, h => exact h.elim
    | .ok (.ret u), ⟨v, H', os, bare, un, hok', r', q⟩ =>
      have q' : v = .bl true := q
      subst q'
      cases r'
      -- each old thing: as it was, or a table that grew
      have each : ∀ b o, s₁.heap.get? b = some o → s'.heap.get? b = some o ∨ ∃ p ∈ cs, b = p.2 ∧ ∃ more : Array Value, s'.heap.get? b = some { cls := .none, data := .fields more } := fun b o e => by
        cases q : H b with
        | none => exact .inl (un.keep b o e q (fun z => by cases z) (fun z => by cases z))
        | some u =>
          rcases hA b u q with ⟨p, m, rfl, rfl⟩ | ⟨rfl, _, ob, xs, rfl⟩
          · obtain ⟨more, z⟩ := un.tbls p.2 #[] q
            exact .inr ⟨p, m, rfl, _, hok' p.2 _ z⟩
          · obtain ⟨e1, _⟩ := hok b _ q
            obtain ⟨e2, _⟩ := hok' b _ (un.frzs b ob _ q)
            rw [e] at e1
            cases e1
            exact .inl e2
      refine ⟨rfl, ⟨fun b o e => ?_, fun b o e => ?_⟩, os, bare⟩
      · rcases each b o e with z | ⟨p, m, rfl, more, z⟩
        · exact .inl z
        · rw [T.emp p m] at e
          cases e
          exact .inr (.inl ⟨((T.hd p m).tab (T.emp p m)).isCodeTable, rfl, #[], more, rfl, by rw [Array.empty_append]; exact z⟩)
      · rcases each b o e with z | ⟨p, m, rfl, more, z⟩
        · exact ⟨o, z⟩
        · exact ⟨_, z⟩
  have aT : ∀ p ∈ cs, p.2 ≠ a := fun p m z => by
    have := T.emp p m
    rw [z, here] at this
    cases this
  have isT : ∀ b, (∃ p ∈ cs, b = p.2) → s₁.heap.get? b = some eTab := fun b ⟨p, m, z⟩ => by rw [z]; exact T.emp p m
  cases hk : K.lookup a with
  | some o =>
    have e := KX a o hk
    rw [here] at e
    cases e
    classical
    refine ⟨fun b => if ∃ p ∈ cs, b = p.2 then some (.tbl #[]) else none, fun p m => if_pos ⟨p, m, rfl⟩, .inr ⟨_, vs.toArray, _, hk, rfl, rfl, rfl, by rw [List.size_toArray, lv]; exact hl, by simpa using rv⟩, fun b u z => ?_, fun b u z => ?_⟩
    · by_cases e : ∃ p ∈ cs, b = p.2
      · have z' := (if_pos e).symm.trans z
        cases z'
        exact isT b e
      · have z' := (if_neg e).symm.trans z
        cases z'
    · by_cases e : ∃ p ∈ cs, b = p.2
      · have z' := (if_pos e).symm.trans z
        cases z'
        obtain ⟨p, m, z⟩ := e
        exact .inl ⟨p, m, z, rfl⟩
      · have z' := (if_neg e).symm.trans z
        cases z'
  | none =>
    classical
    refine ⟨fun b => if ∃ p ∈ cs, b = p.2 then some (.tbl #[]) else if b = a then some (.frz { cls := .type "list", data := .seq vs.toArray } (.lst (ns.map V.int))) else none, fun p m => if_pos ⟨p, m, rfl⟩, .inl (.inr ⟨_, (if_neg fun ⟨p, m, z⟩ => aT p m z.symm).trans (if_pos rfl)⟩), fun b u z => ?_, fun b u z => ?_⟩
    · by_cases e : ∃ p ∈ cs, b = p.2
      · have z' := (if_pos e).symm.trans z
        cases z'
        exact isT b e
      · have z1 := (if_neg e).symm.trans z
        by_cases e2 : b = a
        · have z' := (if_pos e2).symm.trans z1
          cases z'
          subst e2
          exact ⟨here, by rw [List.length_map]; exact hl, vs, _, rv, here⟩
        · have z' := (if_neg e2).symm.trans z1
          cases z'
    · by_cases e : ∃ p ∈ cs, b = p.2
      · have z' := (if_pos e).symm.trans z
        cases z'
        obtain ⟨p, m, z⟩ := e
        exact .inl ⟨p, m, z, rfl⟩
      · have z1 := (if_neg e).symm.trans z
        by_cases e2 : b = a
        · have z' := (if_pos e2).symm.trans z1
          cases z'
          exact .inr ⟨e2, rfl, _, _, rfl⟩
        · have z' := (if_neg e2).symm.trans z1
          cases z'
/-- the defs' own tables at the head: empty -/
def OwnT (q : Program) (mg : Str → Option Value) (h : Heap) : Prop := ∀ nm : Str, ((recsOf q).any fun e => e.name == nm) = true →
  ∃ (f c P : Addr) (o : Obj) (fd : FuncData), mg nm = some (.ref f) ∧ h.get? f = some o ∧ o.data = .func fd ∧ fd.code = .ref c ∧ PySem.W.CodeHd h c P ∧ h.get? P = some eTab
/-- the goal that the head leaves -/
theorem walkT {l : PySem.W.OpenLaw} {k : Nat} {q : Program} {loose : List Str} {XP : (Str → Option Value) → Heap → Prop} {YP : World → Heap → Prop} {d : DefRec} {K : Params → PySem.W.Frag}
    (hn : l.most = some 63) (hdf : d.params.defaults = []) (hr : RmG k callerA) (hY : ∀ (w : World) (h : Heap), YP w h → (K w.params).In h)
    (F : ∀ (w : World) (mg : Str → Option Value) (fa : Addr) (h : Heap), (K w.params).In h → h.Ns mainGlobals mg → mg d.name = some (.ref fa) → OwnT q mg h →
      ∃ (cs : List (Addr × Addr)) (fd : FuncData), TabsAt (K w.params) h cs ∧ (∀ (s : Shared) (u : Value), BindsTo s fd ⟨[u], []⟩ [("_law_script", u)]) ∧
        ∀ base : Heap, (K w.params).In base → base.Ns mainGlobals mg → (∀ p ∈ cs, GxR.TabB base mg p.1 p.2) → FnG l.prog w (K w.params) mg base CX0 k fa fd ["_law_script"] (@spLaw ⟨cs.map (·.2)⟩ (K w.params))) :
    PySem.W.WalkO q loose XP YP l.row.toRowW d [] (fun f vs => PySem.call f vs) := by
  apply Att.attach_call hn hdf
  intro w s₀ s₁ mg mb fa o pm cd doc a vs ns G Y ho hd hcd hmg hobj hints hlen hg
  have inK := hY w _ Y
  have own : OwnT q mg s₁.heap := fun nm hnm => by
    obtain ⟨dL, m, e⟩ := List.any_eq_true.mp hnm
    have e : dL.name = nm := beq_iff_eq.mp e
    obtain ⟨f, o', fd', c, P, h1, h2, h3, h4, h5, h6⟩ := G.T.tab dL m
    rw [e] at h1
    exact ⟨f, c, P, o', fd', h1, h2, h3, h4, PySem.W.CodeHd.of h5 h6, h6.2⟩
  obtain ⟨cs, fd, T, hb, hF⟩ := F w mg fa _ inK G.T.g hmg own
  refine lawT_call inK G.T.g G.T.b G.T.builtins G.T.nolimit hg T G.T.bmain hobj hints (Nat.le_trans hlen (by decide)) hr hF hb fun H hT hS => ?_
  refine ⟨a, ns, rfl, hS, hlen, fun P m => ?_, fun _ => rfl⟩
  obtain ⟨p, mp, rfl⟩ := List.mem_map.mp m
  exact tabG_new (hT p mp)
/-- the table that a code object names -/
def tabO (K : PySem.W.Frag) (c : Addr) : Addr := match K.lookup c with
  | some o => (match o.data with
    | .fields vs => (match (vs[11]? : Option Value) with
      | some (.ref P) => P
      | _ => 0)
    | _ => 0)
  | none => 0
theorem own_at {q : Program} {mg : Str → Option Value} {h : Heap} {K : PySem.W.Frag} {nm qual : Str} {st : Stmt} {f : Addr} {fd : FuncData} {o : Obj} {c : Addr} (W : OwnT q mg h) (X : K.In h) (hr : ((recsOf q).any fun e => e.name == nm) = true)
    (hm : mg nm = some (.ref f)) (lk : K.lookup f = some o) (hd : o.data = .func fd) (hc : fd.code = .ref c) (hk : (K.lookup c).isSome = true) :
    h.get? (tabO K c) = some eTab ∧ PySem.W.CodeHd h c (tabO K c) := by
  obtain ⟨f', c', P, o', fd', h1, h2, h3, h4, h5, h6⟩ := W nm hr
  rw [hm] at h1; cases h1
  rw [X _ _ lk] at h2; cases h2
  rw [hd] at h3; cases h3
  rw [hc] at h4; cases h4
  obtain ⟨oc, e⟩ := Option.isSome_iff_exists.mp hk
  have g := X _ _ e
  have ep : tabO K c = P := by
    obtain ⟨oc', us, f1, f2, f3, f4, f5, f6, f7, g1, g2, g3, g4, _⟩ := h5
    rw [g] at g1; cases g1
    unfold tabO
    rw [e]
    simp only [g3, g4]
  rw [ep]
  exact ⟨h6, h5⟩
end DL
namespace DL
open PySem PySem.Spec PyProof.Rows L2
/-- a def with a table of code objects -/
structure GenT [Tb] (mg : Str → Option Value) (base : Heap) (fd : FuncData) (c P : Addr) : Prop where
  hc : fd.code = .ref c
  tb : GxR.TabB base mg c P
  mem : P ∈ (Tb.Ts : List Addr)
end DL

set_option Elab.async false
set_option linter.all false
set_option maxRecDepth 100000
set_option maxHeartbeats 4000000
/-! quiet expressions: nothing changes but what is new -/
namespace DL
open PySem PySem.Spec PyProof.Rows L2
abbrev Kept := Addr → Obj → Prop
def KIn (B : Kept) (h : Heap) : Prop := ∀ b o, B b o → h.get? b = some o
theorem keeps_tr {s s1 s2 : Shared} (a : Keeps s s1) (b : Keeps s1 s2) : Keeps s s2 := by
  obtain ⟨h1, t1, rfl, k1⟩ := a
  obtain ⟨h2, t2, rfl, k2⟩ := b
  exact ⟨h2, t2, rfl, fun x o e => k2 x o (k1 x o e)⟩
theorem KIn.go {B : Kept} {s s1 : Shared} (k : KIn B s.heap) (a : Keeps s s1) : KIn B s1.heap := by
  obtain ⟨h1, t1, rfl, k1⟩ := a
  exact fun b o e => k1 b o (k b o e)
theorem keeps_ns {s s1 : Shared} {L : Addr} {m : Str → Option Value} (n : s.heap.Ns L m) (a : Keeps s s1) : s1.heap.Ns L m := by
  obtain ⟨h1, t1, rfl, k1⟩ := a
  exact n.keeps k1
/-- in such an environment e comes to a value with F, and nothing changes but what is new -/
def Qe (prog : Program) (w : World) (B : Kept) (D : Nat) (env : Env) (m : Str → Option Value) (e : Expr) (F : Value → Prop) : Prop :=
  ∀ (A : Around) (E : Value → Shared → Prop) (s : Shared), A.depth ≤ D → KIn B s.heap → s.heap.Ns env.locals m → wpAny (model prog w) A (eval e env) (fun y s1 => F y ∧ Keeps s s1) E s
structure QEnv (env : Env) : Prop where
  kind : env.scope.kind = .function
  gl : env.globals = mainGlobals
  bl : env.builtins = builtinsNs
/-- a call that is quiet -/
def QFn (prog : Program) (w : World) (B : Kept) (D : Nat) (f : Addr) (vs : List Value) (F : Value → Prop) : Prop :=
  ∀ (A : Around) (E : Value → Shared → Prop) (s : Shared), A.depth ≤ D → KIn B s.heap → wpAny (model prog w) A (call (.ref f) vs) (fun y s1 => F y ∧ Keeps s s1) E s
section
variable {prog : Program} {w : World} {B : Kept} {D : Nat} {env : Env} {m : Str → Option Value} {K : PySem.W.Frag} {mg : Str → Option Value} {base : Heap} {pos p p1 p2 : Pos} {a b : Expr} {rest : List Expr}
theorem qe_loc {x : Str} {v : Value} (q : QEnv env) (hl : env.kindOf x = some .local) (hv : m x = some v) (hd : (x == ("__debug__" : Str)) = false := by decide) : Qe prog w B D env m (.Name x pos) (· = v) :=
  fun A E s _ _ hn => wpAny_Name (wpAny_loadName_local q.kind hl hn hv ⟨rfl, GxR.keeps_refl s⟩) hd
theorem qe_mono {e : Expr} {F F' : Value → Prop} (h : Qe prog w B D env m e F) (k : ∀ v, F v → F' v) : Qe prog w B D env m e F' :=
  fun A E s d kb hn => wpAny_mono (h A E s d kb hn) (fun y s1 r => ⟨k y r.1, r.2⟩) fun _ _ z => z
theorem qe_one {op : BoolOp} {F : Value → Prop} (h : Qe prog w B D env m a F) : Qe prog w B D env m (.BoolOp op [a] pos) F :=
  fun A E s d kb hn => BoolOp_one (h A E s d kb hn)
theorem qe_and {x y : Bool} (h : Qe prog w B D env m a (· = .bool x)) (t : x = true → Qe prog w B D env m (.BoolOp .And (b :: rest) pos) (· = .bool y)) : Qe prog w B D env m (.BoolOp .And (a :: b :: rest) pos) (· = .bool (x && y)) :=
  fun A E s d kb hn => BoolOp_and (wpAny_mono (h A E s d kb hn) (fun v s1 r => by
    obtain ⟨rfl, k1⟩ := r
    refine wpAny_truthy_bool ?_
    cases x with
    | false => exact ⟨rfl, k1⟩
    | true => exact wpAny_mono (t rfl A E s1 d (kb.go k1) (keeps_ns hn k1)) (fun v s2 r => ⟨r.1, keeps_tr k1 r.2⟩) fun _ _ z => z) fun _ _ z => z)
theorem qe_not {x : Bool} (h : Qe prog w B D env m a (· = .bool x)) : Qe prog w B D env m (.UnaryOp .Not a pos) (· = .bool (!x)) :=
  fun A E s d kb hn => UnaryOp_ (wpAny_mono (h A E s d kb hn) (fun v s1 r => by
    obtain ⟨rfl, k1⟩ := r
    exact not_of (wpAny_truthy_bool ⟨rfl, k1⟩)) fun _ _ z => z)
theorem qe_glob {x : Str} {v : Value} (q : QEnv env) (M : L2.Mod K mg base) (hB : ∀ b o, base.get? b = some o → B b o) (hg : env.kindOf x = some .globalImplicit) (hm : mg x = some v) (hd : (x == ("__debug__" : Str)) = false := by decide) : Qe prog w B D env m (.Name x pos) (· = v) :=
  fun A E s _ kb _ => Calls.Name_function_global q.kind hg (Calls.loadGlobal_global (by rw [q.gl]; exact M.glob.keeps fun b o e => kb b o (hB b o e)) hm ⟨rfl, GxR.keeps_refl s⟩) hd
theorem qe_blt {x : Str} {v : Value} (q : QEnv env) (M : L2.Mod K mg base) (hB : ∀ b o, base.get? b = some o → B b o) (hg : env.kindOf x = some .globalImplicit) (hm : mg x = none) (hv : bootBuiltins x = some v) (hn : x ≠ "__name__" := by decide) (hd : (x == ("__debug__" : Str)) = false := by decide) : Qe prog w B D env m (.Name x pos) (· = v) :=
  fun A E s _ kb _ => by
    obtain ⟨mb, h1, h2⟩ := M.blt
    exact Calls.Name_function_global q.kind hg (Calls.loadGlobal_builtin (by rw [q.gl]; exact M.glob.keeps fun b o e => kb b o (hB b o e)) hm (by rw [q.bl]; exact h1.keeps fun b o e => kb b o (hB b o e)) ((h2 x hn).trans hv) ⟨rfl, GxR.keeps_refl s⟩) hd
/-- what kind of thing a value is -/
def Knd (B : Kept) (v : Value) (d : PyData) : Prop := match d with
  | .none => v = .none
  | .bool b => v = .bool b
  | .int i => ∃ t, v = .int i t
  | .str x => ∃ t, v = .str x t
  | .list _ => ∃ a o, v = .ref a ∧ B a o ∧ o.cls = .type "list"
  | .tuple _ => ∃ a o, v = .ref a ∧ B a o ∧ o.cls = .type "tuple"
  | .dict _ => ∃ a o, v = .ref a ∧ B a o ∧ o.cls = .type "dict"
theorem knd_kit {v : Value} {d : PyData} (k : Knd B v d) : ∃ P : Heap → Prop, PySem.W.KitX K v (.type (tyN d)) P ∧ (∀ h, KIn B h → P h) ∧ v ≠ .builtin "__main__.__loader__#opaque" := by
  cases d with
  | none => cases (show v = .none from k); exact ⟨_, PySem.W.kitx_none, fun _ _ => True.intro, fun z => nomatch z⟩
  | bool b => cases (show v = .bool b from k); exact ⟨_, PySem.W.kitx_bool, fun _ _ => True.intro, fun z => nomatch z⟩
  | int i => obtain ⟨t, q⟩ := (show ∃ t, v = .int i t from k); cases q; exact ⟨_, PySem.W.kitx_int, fun _ _ => True.intro, fun z => nomatch z⟩
  | str x => obtain ⟨t, q⟩ := (show ∃ t, v = .str x t from k); cases q; exact ⟨_, PySem.W.kitx_str, fun _ _ => True.intro, fun z => nomatch z⟩
  | list ds => obtain ⟨a, o, q, h1, h2⟩ := (show ∃ a o, v = .ref a ∧ B a o ∧ o.cls = .type "list" from k); cases q; exact ⟨_, PySem.W.kitx_list, fun h kb => ⟨o, kb a o h1, h2⟩, fun z => nomatch z⟩
  | tuple ds => obtain ⟨a, o, q, h1, h2⟩ := (show ∃ a o, v = .ref a ∧ B a o ∧ o.cls = .type "tuple" from k); cases q; exact ⟨_, PySem.W.kitx_tuple, fun h kb => ⟨o, kb a o h1, h2⟩, fun z => nomatch z⟩
  | dict ds => obtain ⟨a, o, q, h1, h2⟩ := (show ∃ a o, v = .ref a ∧ B a o ∧ o.cls = .type "dict" from k); cases q; exact ⟨_, PySem.W.kitx_dict, fun h kb => ⟨o, kb a o h1, h2⟩, fun z => nomatch z⟩
/-- isinstance(a, T) -/
theorem qe_isi {v : Value} {d : PyData} {T : String} {tx : Str} {r : Bool} (q : QEnv env) (M : L2.Mod K mg base) (hB : ∀ b o, base.get? b = some o → B b o) (h : Qe prog w B D env m a (· = v)) (k : Knd B v d) (hr : kitB (tyN d) T = some r)
    (hg : env.kindOf "isinstance" = some .globalImplicit) (hm : mg "isinstance" = none) (hv : bootBuiltins "isinstance" = some (.builtin "isinstance")) (hgt : env.kindOf tx = some .globalImplicit) (hmt : mg tx = none) (hvt : bootBuiltins tx = some (.type T))
    (hn : tx ≠ "__name__" := by decide) (hdb : (tx == ("__debug__" : Str)) = false := by decide)
    (h1 : starEach [a, .Name tx p2] env = (false, eval a env) :: starEach [.Name tx p2] env := by rfl) (h2 : starEach [.Name tx p2] env = (false, eval (.Name tx p2) env) :: starEach [] env := by rfl)
    (hpl : (backTo pos (starEach [.Name tx p2] env)).any (·.1) = false := by rfl) :
    Qe prog w B D env m (.Call (.Name "isinstance" p) [a, .Name tx p2] [] pos) (· = .bool r) := fun A E s dp kb hns => by
  obtain ⟨P, Z, hP, hx⟩ := knd_kit (K := K) k
  refine wpAny_Call_Name_kw (wpAny_mono (qe_blt q M hB hg hm hv (by decide) (by decide) A E s dp kb hns) (fun y s1 r1 => ?_) fun _ _ z => z)
  obtain ⟨rfl, k1⟩ := r1
  refine PyProof.Rows.callWith_builtin1 ?_ h1 hpl
  rw [h1, h2]
  show wpAny _ _ (spliced ((false, eval a env) :: (false, eval (.Name tx p2) env) :: [])) _ _ s1
  refine Calls.spliced_cons (wpAny_mono (h A E s1 dp (kb.go k1) (keeps_ns hns k1)) (fun y s2 r2 => ?_) fun _ _ z => z)
  obtain ⟨rfl, k2⟩ := r2
  have k12 := keeps_tr k1 k2
  refine Calls.spliced_cons (wpAny_mono (qe_blt q M hB hgt hmt hvt hn hdb A E s2 dp (kb.go k12) (keeps_ns hns k12)) (fun y s3 r3 => ?_) fun _ _ z => z)
  obtain ⟨rfl, k3⟩ := r3
  have k13 := keeps_tr k12 k3
  refine Calls.spliced_nil ?_
  have kb3 := kb.go k13
  exact PySem.W.kia_one Z (M.kin.keeps fun b o e => kb3 b o (hB b o e)) (hP _ kb3) (kit_ty hr) hx fun tk => ⟨rfl, keeps_tr k13 (GxR.keeps_tok s3 tk)⟩
/-- f(a), f a def that is quiet -/
theorem qe_call1 {x : Str} {f : Addr} {v : Value} {F : Value → Prop} (q : QEnv env) (M : L2.Mod K mg base) (hB : ∀ b o, base.get? b = some o → B b o) (h : Qe prog w B D env m a (· = v)) (hf : QFn prog w B D f [v] F)
    (hg : env.kindOf x = some .globalImplicit) (hm : mg x = some (.ref f)) (hk : PySem.W.keepIn K (.ref f) = true) (hdb : (x == ("__debug__" : Str)) = false := by decide)
    (h1 : starEach [a] env = (false, eval a env) :: starEach [] env := by rfl) (hpl : (backTo pos (starEach [] env)).any (·.1) = false := by rfl) :
    Qe prog w B D env m (.Call (.Name x p) [a] [] pos) F := fun A E s dp kb hns => by
  refine wpAny_Call_Name_kw (wpAny_mono (qe_glob q M hB hg hm hdb A E s dp kb hns) (fun y s1 r1 => ?_) fun _ _ z => z)
  obtain ⟨rfl, k1⟩ := r1
  refine PySem.W.callWith_K (h₀ := base) M.kin hk ?_ h1 hpl
  rw [h1]
  show wpAny _ _ (spliced ((false, eval a env) :: [])) _ _ s1
  refine Calls.spliced_cons (wpAny_mono (h A E s1 dp (kb.go k1) (keeps_ns hns k1)) (fun y s2 r2 => ?_) fun _ _ z => z)
  obtain ⟨rfl, k2⟩ := r2
  have k12 := keeps_tr k1 k2
  refine Calls.spliced_nil ⟨?_, ?_⟩
  · exact M.kin.keeps fun b o e => kb.go k12 b o (hB b o e)
  · exact wpAny_mono (hf A E s2 dp (kb.go k12)) (fun y s3 r3 => ⟨r3.1, keeps_tr k12 r3.2⟩) fun _ _ z => z
/-- a def of one row -/
theorem qfn_of {x qual : Str} {st : Stmt} {f : Addr} {fd : FuncData} {N ps : List Str} {e : Expr} {us : List Value} {F : Value → Prop} (Fn : Fun K x qual st f fd) (S : FnScope N ps (defScope st)) (hbind : Binds K fd ps []) (M : L2.Mod K mg base) (hB : ∀ b o, base.get? b = some o → B b o)
    (hu : us.length = ps.length) (hD : D < recursionLimit) (hbody : defBody st = [.Return (some e) pos])
    (h : ∀ (L : Addr) (cdv : Value), Qe prog w B (D + 1) (envOfC qual (defScope st) L f cdv) (bindL (envOfC qual (defScope st) L f cdv).kindOf (ps.zip us) fun _ => none) e F) : QFn prog w B D f us F := fun A E s dp kb => by
  obtain ⟨oc, od, kV, doc, pm, an, cdv, ct, osl, rfl, lk, hcd⟩ := Fn.ex
  have inK : K.In s.heap := M.kin.keeps fun b o e => kb b o (hB b o e)
  have lim : s.heap.NoLimit := M.nolimit.keeps fun b o e => kb b o (hB b o e)
  have kinds : ∀ y ∈ ps.zip us, (defScope st).names.lookup y.1 = some .local ∨ ((defScope st).names.lookup y.1 = some .cell ∧ ((cellsFrom (s.heap.objs.size + 1) (defScope st).names []).lookup y.1).isSome = true) := by
    rintro ⟨n, v⟩ hy
    cases S.par n (List.of_mem_zip hy).1 with
    | inl q => exact .inl q
    | inr q => exact .inr ⟨q, PySem.W.cellsFrom_some _ _ _ (.inl q)⟩
  refine wpAny_call ?_
  refine codeAny_call_function (by omega) (inK _ _ lk) rfl S.co S.gen rfl (PySem.W.codeRec_of inK hcd) ?_
  have bt := hbind s us inK (by rw [List.append_nil]; exact hu)
  rw [List.append_nil] at bt
  refine bt _ _ _ _ ?_
  refine wpAny_newFunctionEnv_cells S.kind kinds fun env he s1 x => ?_
  subst he
  refine ⟨lim.keeps x.toInCall.keep, codeAny_func ?_⟩
  show wpAny _ _ (execs (defBody st) _) _ _ s1
  rw [hbody]
  have ks : Keeps s s1 := by
    obtain ⟨h', tk, e1, e2⟩ := x.done
    exact ⟨h', tk, e1, e2⟩
  refine wpAny_execs_cons (wpAny_Return_some (wpAny_mono (h s.heap.objs.size cdv _ _ s1 (by show A.depth + 1 ≤ D + 1; omega) (kb.go ks) x.toInCall.ns) (fun y s2 r => ⟨r.1, keeps_tr ks r.2⟩) fun _ _ z => z))
end
end DL

set_option Elab.async false
set_option linter.all false
set_option maxRecDepth 100000
set_option maxHeartbeats 4000000
/-! all and any of a generator expression over a tuple -/
namespace DL
open PySem PySem.Spec PyProof.Rows L2
variable [Tb]
/-- a value's kind, where it is data -/
theorem knd_of {X : Cx} {pins : List (Addr × Obj)} {σ : L2.St} {H : Hp} {s : Shared} {x : V} {u : Value} {d : PyData} {B : Kept} (I : Inv X pins σ H s) (rx : RelV x u) (h : Dx X.K H x d)
    (hB : ∀ b o, s.heap.get? b = some o → (o.cls = .type "list" ∨ o.cls = .type "tuple" ∨ o.cls = .type "dict") → B b o) : Knd B u d := by
  cases h with
  | non => exact rx
  | bl b => exact rx
  | int i => exact rx
  | str y => exact rx
  | @lst a xs ds ea h2 =>
    cases (show u = Value.ref a from rx)
    obtain ⟨_, _, n, _, e⟩ := (show ObjOk X.prog X.w H s.heap a (.lst xs) from I.hok a _ ea)
    exact ⟨a, _, rfl, hB a _ e (.inl rfl), rfl⟩
  | @tup a xs ds h1 h2 =>
    cases (show u = Value.ref a from rx)
    obtain ⟨its, o, n, _, e, hc, _⟩ := L2.sqT_at I.hok I.kIn h1
    exact ⟨a, o, rfl, hB a o e (.inr (.inl hc)), hc⟩
  | @dct a o vs es h1 h2 h3 =>
    cases (show u = Value.ref a from rx)
    obtain ⟨kvs, rfl, _⟩ := h2
    obtain ⟨_, _, vs, _, ob, es, ep, e1, e2, _⟩ := (show ObjOk X.prog X.w H s.heap a (.dK kvs) from I.hok a _ h1)
    exact ⟨a, ob, rfl, hB a ob e1 (.inr (.inr e2.1)), e2.1⟩
/-- at place i the test's truth -/
def trD (pb : PyData → Bool) (ds : List PyData) (i : Nat) : Bool := match ds[i]? with
  | some d => pb d
  | none => false
theorem all_trD (pb : PyData → Bool) (ds : List PyData) : (List.range ds.length).all (trD pb ds) = ds.all pb := by
  rw [Bool.eq_iff_iff, List.all_eq_true, List.all_eq_true]
  constructor
  · intro h d m
    obtain ⟨i, hi, rfl⟩ := List.getElem_of_mem m
    have := h i (List.mem_range.mpr hi)
    unfold trD at this
    rw [List.getElem?_eq_getElem hi] at this
    exact this
  · intro h i hi
    have hi := List.mem_range.mp hi
    unfold trD
    rw [List.getElem?_eq_getElem hi]
    exact h _ (List.getElem_mem hi)
theorem any_trD (pb : PyData → Bool) (ds : List PyData) : (List.range ds.length).any (trD pb ds) = ds.any pb := by
  rw [Bool.eq_iff_iff, List.any_eq_true, List.any_eq_true]
  constructor
  · rintro ⟨i, hi, h⟩
    have hi := List.mem_range.mp hi
    unfold trD at h
    rw [List.getElem?_eq_getElem hi] at h
    exact ⟨_, List.getElem_mem hi, h⟩
  · rintro ⟨d, m, h⟩
    obtain ⟨i, hi, rfl⟩ := List.getElem_of_mem m
    refine ⟨i, List.mem_range.mpr hi, ?_⟩
    unfold trD
    rw [List.getElem?_eq_getElem hi]
    exact h
/-- the test of one thing: quiet, where all that stood is kept -/
def EltD (X : Cx) (scope : Scope) (x : Str) (elt : Expr) (ok : PyData → Prop) (pb : PyData → Bool) : Prop :=
  ∀ (B : Kept) (env : Env) (m : Str → Option Value) (d : PyData) (u : Value), L2.Mod X.K X.mg X.base → (∀ b o, X.base.get? b = some o → B b o) → QEnv env → env.scope = scope → m x = some u → Knd B u d → ok d → Qe X.prog X.w B (X.A.depth + 1) env m elt (· = .bool (pb d))
/-- the generator at g, about to be walked, in the state s5; H1 was held ahead of it -/
def RdyD (X : Cx) (pins : List (Addr × Obj)) (σ : L2.St) (H1 : Hp) (P : Addr) (ds : List PyData) (pb : PyData → Bool) (g : Addr) (s5 : Shared) : Prop :=
  ∃ (fp wr : List Addr) (G : Array GenState → Array GenState → Prop) (F : Nat → Value → Prop) (St : Nat → Shared → Prop),
    WalksS X.prog X.w X.A.in1 g fp wr G ds.length F St ∧ St 0 s5 ∧ TruthOf X.prog X.w X.A.in1 F (trD pb ds) ∧ ∀ s', Moved wr G s5 s' → ∃ H2, GxR.Tabbed P H1 H2 ∧ Inv X pins σ H2 s'
section
variable {X : Cx} {pins : List (Addr × Obj)} {σ : L2.St} {H : Hp} {s : Shared}
theorem gen_tup {c P : Addr} {elt iter : Expr} {x : Str} {px gpos : Pos} {scope : Scope} {ok : PyData → Prop} {pb : PyData → Bool} {te : TE} {k : Nat} {Q' : Value → Shared → Prop} {R : List PyData → Hp → Prop}
    (hr : Room k X.A) (TB : GxR.TabB X.base X.mg c P) (hcode : X.env.code = .ref c) (S : GxR.GenS X.env scope x) (hi : PE X iter te) (hel : EltD X scope x elt ok pb)
    (hs : ∀ v, genFold iter X.env v = pure v) (I : Inv X pins σ H s)
    (h : te σ H fun v H1 => ∃ (a : Addr) (xs : List V) (ds : List PyData) (O : List Addr), v = .ref a ∧ SqT X.K H1 a xs ∧ DxAll X.K (hid O H1) xs ds ∧ (∀ d ∈ ds, ok d) ∧ GxR.TabG H1 P ∧ R ds H1)
    (hQ : ∀ ds H1 g s5, R ds H1 → RdyD X pins σ H1 P ds pb g s5 → Q' (.ref g) s5) :
    wpAny (model X.prog X.w) X.A (eval (.GeneratorExp elt [⟨.Name x px, iter, [], 0⟩] scope gpos) X.env) Q' X.xe s := by
  refine wpAny_GeneratorExp_walksQD hr.hd S.co (closure_ok S.free) S.cell S.dot S.loc S.kind (by have := hr.dp; omega) ?_ hs
  refine thn (hi.run pins s σ H _ I h) ?_
  rintro xv s1 ⟨v, H1, I1, r1, a, xs, ds, O, rfl, hT, hD, hok, ⟨ps, hP, ht⟩, q1⟩
  cases (show xv = Value.ref a from r1)
  obtain ⟨its, ot, nt, rv, eo, ec, ed⟩ := L2.sqT_at I1.hok I1.kIn hT
  have tup1 : s1.heap.IsTuple a its.toArray := ⟨ot, eo, ec, nt, ed⟩
  have len : its.length = ds.length := by rw [← rv.length]; exact hD.len
  refine wpAny_pyIter_tuple tup1 ?_
  generalize eit : ({ cls := .type "tuple_iterator", data := .fields #[.ref a, .int 0 0] } : Obj) = it
  have atP : s1.heap.get? P = some { cls := .none, data := .fields ps } := I1.hok P _ hP
  have ltP : P < s1.heap.objs.size := Heap.lt_size atP
  have lta : a < s1.heap.objs.size := Heap.lt_size eo
  have neP : ∀ b o, s1.heap.get? b = some o → (o.cls = .type "list" ∨ o.cls = .type "tuple" ∨ o.cls = .type "dict") → b ≠ P := fun b o e hc z => by
    rw [z, atP] at e
    cases e
    rcases hc with z | z | z <;> cases z
  have up : ∀ b o, s1.heap.get? b = some o → (s1.heap.push it).get? b = some o := fun b o e => Heap.get?_push_of_some _ e
  have iter0 : (s1.heap.push it).IsTupleIter s1.heap.objs.size a 0 := by
    subst eit
    exact ⟨_, Heap.get?_push_size _ rfl, rfl, rfl⟩
  have atP2 := up _ _ atP
  have cd : PySem.W.CodeHd (s1.heap.push it) c P := TB.code.keeps fun b u e => up b u (I1.bk b u e)
  have lim2 : (s1.heap.push it).NoLimit := I1.nolimit.push it
  -- behind the making of the code object, whether it was there or not
  have go : ∀ (code : Value) (h3 : Heap) (tk : Nat) (ps' : Array Value), Heap.ExtBut P (s1.heap.push it) h3 → (s1.heap.push it).objs.size ≤ h3.objs.size → h3.get? P = some { cls := .none, data := .fields ps' } → (∃ more, ps' = ps ++ more) → TriplesOk ps'.toList →
      wpAny (model X.prog X.w) X.A (builtinsFor X.env.globals X.env.builtins) (fun bi s₄ =>
        ∃ Ia fp wr n₀ Pf St₀ pz F, Value.ref s1.heap.objs.size = .ref Ia ∧ (∀ A' : Around, A'.handled = none → Walks X.prog X.w A' Ia fp wr n₀ Pf St₀) ∧ St₀ 0 s₄.heap ∧ (∀ b ∈ fp, b < s₄.heap.objs.size) ∧ s₄.heap.NoLimit ∧ cStatics ∉ wr ∧
          (∀ href : Heap, (∀ b o, s₄.heap.get? b = some o → href.get? b = some o) →
            QuietGenD X.prog X.w (genEnv scope (cloFrom X.env.cells scope.names []) s₄.heap.objs.size code bi X.env) x [] elt (List.range s₄.heap.objs.size) wr Pf pz F href (X.A.depth + 1) (X.A.units + 8)) ∧
          (∀ a h₅ tk gs, gs.bare = true → s₄.heap.objs.size < a → h₅.objs.size = a + 1 → (∀ b o, s₄.heap.get? b = some o → h₅.get? b = some o) →
            WalksS X.prog X.w X.A.in4 a (a :: s₄.heap.objs.size :: List.range s₄.heap.objs.size) (s₄.heap.objs.size :: wr) (GenOnlyQ s₄.gens.size) (passing pz n₀ 0).length
              (fun j y => ∃ i, (passing pz n₀ 0)[j]? = some i ∧ F i y) (GenAt X.prog X.w X.A.in4 a s₄.gens.size s₄.heap.objs.size (List.range s₄.heap.objs.size) wr pz n₀ F) →
            GenAt X.prog X.w X.A.in4 a s₄.gens.size s₄.heap.objs.size (List.range s₄.heap.objs.size) wr pz n₀ F 0 { s₄ with gens := s₄.gens.push gs, toks := tk, heap := h₅ } →
            Q' (.ref a) { s₄ with gens := s₄.gens.push gs, toks := tk, heap := h₅ })) X.xe { s1 with heap := h3, toks := tk } := by
    rintro code h3 tk _ grown big atP3 ⟨more, rfl⟩ ht3
    obtain ⟨bm, ob, e1, e2, e3, e4, e5, e6, e7, e8⟩ := TB.bm
    have lts : cStatics < s1.heap.objs.size := let ⟨_, hns, _⟩ := I1.nolimit; hns.lt
    have nesP : cStatics ≠ P := fun z => by
      obtain ⟨_, ⟨o', es, ep, ho, hd, _⟩, _⟩ := I1.nolimit
      rw [z, atP] at ho
      cases ho
      cases hd
    have size2 : (s1.heap.push it).objs.size = s1.heap.objs.size + 1 := Heap.size_push ..
    have keep : ∀ b u, b ≠ P → s1.heap.get? b = some u → h3.get? b = some u := fun b u n e => grown b u n (up b u e)
    have iter3 : h3.IsTupleIter s1.heap.objs.size a 0 := iter0.at fun u e => grown _ u (Nat.ne_of_gt ltP) e
    have tup3 : h3.IsTuple a its.toArray := ⟨ot, keep _ _ (neP a ot eo (.inr (.inl ec))) eo, ec, nt, ed⟩
    refine wpAny_builtinsFor (m := X.mg) (by rw [I1.ok.glob]; exact ((I1.mod.glob.keeps I1.bk).push it).extBut grown TB.gP) e1 e2 (keep _ _ e4 (I1.bk _ _ e5)) e6 e7 e8 ?_
    refine ⟨_, [s1.heap.objs.size, a], [s1.heap.objs.size], its.toArray.size, (fun i v => its.toArray[i]? = some v), (fun i h => h.IsTupleIter s1.heap.objs.size a i ∧ h.IsTuple a its.toArray), (fun _ => true), (fun i y => ∃ d, ds[i]? = some d ∧ y = .bool (pb d)), rfl,
      fun A' hA => Walks.tuple hA _ _ (Nat.ne_of_lt lta) _, ⟨iter3, tup3⟩, fun b m => ?_, lim2.extBut grown nesP, fun m => ?_, fun href sub => ⟨?_, ?_⟩, ?_⟩
    · have big1 : s1.heap.objs.size < h3.objs.size := Nat.lt_of_lt_of_le (by rw [size2]; exact Nat.lt_succ_self _) big
      show b < h3.objs.size
      rcases List.mem_cons.mp m with z | m
      · rw [z]; exact big1
      · rw [List.mem_singleton.mp m]; exact Nat.lt_trans lta big1
    · exact Nat.ne_of_lt lts (List.mem_singleton.mp m)
    · intro A' E' i v s₂ m₂ _ _ _ _ _ _ _
      simp only [List.forIn_nil]
      exact wpAny_pure ⟨rfl, GxR.keeps_refl _⟩
    · intro A' E' i v s₂ m₂ _ dp _ hv _ hn hm hk
      have hv2 : its[i]? = some v := by simpa using hv
      have il : i < its.length := (List.getElem?_eq_some_iff.mp hv2).1
      obtain ⟨y, hy⟩ : ∃ y, xs[i]? = some y := ⟨xs[i]'(by rw [rv.length]; exact il), List.getElem?_eq_getElem _⟩
      obtain ⟨u, hu, ru⟩ := rv.get hy
      rw [hv2] at hu
      cases hu
      obtain ⟨d, hd, dx⟩ := hD.get' hy
      -- all that stood ahead of it but for the table and the iterator is kept
      let B : Kept := fun b o => b ≠ P ∧ s1.heap.get? b = some o
      have kb : KIn B s₂.heap := fun b o e => hk b (List.mem_range.mpr (by
          have l := Heap.lt_size e.2
          have big1 : s1.heap.objs.size < h3.objs.size := Nat.lt_of_lt_of_le (by rw [size2]; exact Nat.lt_succ_self _) big
          exact Nat.lt_trans l big1)) (fun m => by
          have l := Heap.lt_size e.2
          rw [List.mem_singleton.mp m] at l
          exact Nat.lt_irrefl _ l) o (sub b o (keep b o e.1 e.2))
      have inB : ∀ b o, X.base.get? b = some o → B b o := fun b o e => ⟨fun z => (by
          have := (I1.bs b o e).2
          rw [z, hP] at this
          cases this), I1.bk b o e⟩
      have kd : Knd B v d := knd_of I1 ru (Dx.same hid_sub d y dx) fun b o e hc => ⟨neP b o e hc, e⟩
      have qv : QEnv (genEnv scope (cloFrom X.env.cells scope.names []) h3.objs.size code builtinsNs X.env) := ⟨S.kind, I1.ok.glob, rfl⟩
      exact wpAny_mono (hel B _ m₂ d v I1.mod inB qv rfl hm kd (hok d (List.mem_of_getElem? hd)) A' E' s₂ dp kb hn) (fun y s3 r => ⟨⟨d, hd, r.1⟩, r.2⟩) fun _ _ e => e
    · intro g h5 tk5 gs bare ag sz5 k5 W5 at0
      simp only [GxR.passing_true, List.length_range] at W5
      have n5 : its.toArray.size = ds.length := by rw [List.size_toArray, len]
      rw [n5] at W5 at0
      refine hQ ds H1 g _ q1 ⟨_, _, _, _, _, W5.in4_1, at0, ?_, fun s' hm => ?_⟩
      · rintro j y sj Qj Ej ⟨i, hij, d, hd, rfl⟩ hQj
        obtain ⟨hj, ej⟩ := List.getElem?_eq_some_iff.mp hij
        rw [List.getElem_range] at ej
        subst ej
        refine wpAny_truthy_bool ?_
        have e : trD pb ds j = pb d := by unfold trD; rw [hd]
        rw [← e]
        exact hQj
      · have apart : ∀ b u, s1.heap.get? b = some u → b ∉ h3.objs.size :: [s1.heap.objs.size] := fun b u e m => by
          have l := Heap.lt_size e
          rcases List.mem_cons.mp m with z | m
          · rw [z] at l
            have : (h3.objs.size : Nat) < s1.heap.objs.size := l
            omega
          · rw [List.mem_singleton.mp m] at l
            exact Nat.lt_irrefl _ l
        have J := GxR.inv_tab (more := more) (h' := s'.heap) (g' := s'.gens) (d' := s'.drawn) (t' := s'.toks) I1 hP (fun b u n e => hm.heap b u (apart b u e) (k5 b u (keep b u n e)))
          (hm.heap P _ (apart P _ atP) (k5 P _ atP3)) (AllBare.movedS (I1.bare.push bare) hm)
        rw [GxR.sh_eta s1 s' hm.os] at J
        exact ⟨upd H1 P (.tbl (ps ++ more)), ⟨⟨ps ++ more, upd_same, ht3⟩, fun b n => upd_ne n⟩, J⟩
  refine ⟨lim2, ?_⟩
  cases hf : codeAmong gpos ps.toList with
  | some cv => exact wpAny_genexprCode_hit hcode (cd.code atP2 ht) hf (go cv _ s1.toks ps (Heap.ExtBut.refl _ _) (Nat.le_refl _) atP2 ⟨#[], by simp⟩ ht)
  | none =>
    refine wpAny_genexprCodeX hcode (cd.code atP2 ht) (cd.tab atP2) hf ?_
    intro c' h' tk hx hge hlt hco' _ htab' _
    obtain ⟨o1, vs, f1, tf, fl, tg, inF, tx, tt, op, _, _, _, _, _, _, _, _, _, htr, _⟩ := hco'
    exact go _ h' tk _ hx (Nat.le_trans hge (Nat.le_of_lt hlt)) htab'.2 ⟨_, rfl⟩ htr
def tAllD (K : PySem.W.Frag) (P : Addr) (ok : PyData → Prop) (pb : PyData → Bool) (te : TE) : TE := fun σ H Q => te σ H fun v H1 => ∃ (a : Addr) (xs : List V) (ds : List PyData) (O : List Addr), v = .ref a ∧ SqT K H1 a xs ∧ DxAll K (hid O H1) xs ds ∧ (∀ d ∈ ds, ok d) ∧ GxR.TabG H1 P ∧
  ∀ H2, GxR.Tabbed P H1 H2 → Q (.bl (ds.all pb)) H2
def tAnyD (K : PySem.W.Frag) (P : Addr) (ok : PyData → Prop) (pb : PyData → Bool) (te : TE) : TE := fun σ H Q => te σ H fun v H1 => ∃ (a : Addr) (xs : List V) (ds : List PyData) (O : List Addr), v = .ref a ∧ SqT K H1 a xs ∧ DxAll K (hid O H1) xs ds ∧ (∀ d ∈ ds, ok d) ∧ GxR.TabG H1 P ∧
  ∀ H2, GxR.Tabbed P H1 H2 → Q (.bl (ds.any pb)) H2
theorem pe_allD {c P : Addr} {elt iter : Expr} {x : Str} {px p pos gpos : Pos} {scope : Scope} {ok : PyData → Prop} {pb : PyData → Bool} {te : TE} {k : Nat}
    (hr : Room k X.A) (hg : Gl X "all") (hm : X.mg "all" = none) (hb : bootBuiltins "all" = some (.builtin "all")) (TB : GxR.TabB X.base X.mg c P) (hcode : X.env.code = .ref c) (S : GxR.GenS X.env scope x) (hi : PE X iter te) (hel : EltD X scope x elt ok pb)
    (hs : ∀ v, genFold iter X.env v = pure v)
    (he : starEach [.GeneratorExp elt [⟨.Name x px, iter, [], 0⟩] scope gpos] X.env = (false, eval (.GeneratorExp elt [⟨.Name x px, iter, [], 0⟩] scope gpos) X.env) :: starEach [] X.env := by rfl) :
    PE X (.Call (.Name "all" p) [.GeneratorExp elt [⟨.Name x px, iter, [], 0⟩] scope gpos] [] pos) (tAllD X.K P ok pb te) := by
  constructor
  intro pins s σ H Q I h
  refine wpAny_Call_Name_kw (ld_blt I hg hm hb ?_)
  refine PyProof.Rows.callWith_builtin1 ?_ he (by rfl)
  rw [he]
  show wpAny _ _ (spliced ((false, eval (.GeneratorExp elt [⟨.Name x px, iter, [], 0⟩] scope gpos) X.env) :: backTo pos (starEach [] X.env))) _ _ s
  refine Calls.spliced_cons (gen_tup (R := fun ds H1 => ∀ H2, GxR.Tabbed P H1 H2 → Q (.bl (ds.all pb)) H2) hr TB hcode S hi hel hs I h ?_)
  rintro ds H1 g s5 hR ⟨fp, wr, G, F, St, W, hst, htr, hI⟩
  refine Calls.spliced_nil (call_all_walkS (W.self 0 _ _ _ hst ⟨g, fp, wr, G, _, F, St, _, rfl, W, hst, htr, fun s' hmv => ?_⟩))
  obtain ⟨H2, hT, J⟩ := hI s' hmv
  rw [all_trD]
  exact ⟨.bl _, H2, J, rfl, hR H2 hT⟩
theorem pe_anyD {c P : Addr} {elt iter : Expr} {x : Str} {px p pos gpos : Pos} {scope : Scope} {ok : PyData → Prop} {pb : PyData → Bool} {te : TE} {k : Nat}
    (hr : Room k X.A) (hg : Gl X "any") (hm : X.mg "any" = none) (hb : bootBuiltins "any" = some (.builtin "any")) (TB : GxR.TabB X.base X.mg c P) (hcode : X.env.code = .ref c) (S : GxR.GenS X.env scope x) (hi : PE X iter te) (hel : EltD X scope x elt ok pb)
    (hs : ∀ v, genFold iter X.env v = pure v)
    (he : starEach [.GeneratorExp elt [⟨.Name x px, iter, [], 0⟩] scope gpos] X.env = (false, eval (.GeneratorExp elt [⟨.Name x px, iter, [], 0⟩] scope gpos) X.env) :: starEach [] X.env := by rfl) :
    PE X (.Call (.Name "any" p) [.GeneratorExp elt [⟨.Name x px, iter, [], 0⟩] scope gpos] [] pos) (tAnyD X.K P ok pb te) := by
  constructor
  intro pins s σ H Q I h
  refine wpAny_Call_Name_kw (ld_blt I hg hm hb ?_)
  refine PyProof.Rows.callWith_builtin1 ?_ he (by rfl)
  rw [he]
  show wpAny _ _ (spliced ((false, eval (.GeneratorExp elt [⟨.Name x px, iter, [], 0⟩] scope gpos) X.env) :: backTo pos (starEach [] X.env))) _ _ s
  refine Calls.spliced_cons (gen_tup (R := fun ds H1 => ∀ H2, GxR.Tabbed P H1 H2 → Q (.bl (ds.any pb)) H2) hr TB hcode S hi hel hs I h ?_)
  rintro ds H1 g s5 hR ⟨fp, wr, G, F, St, W, hst, htr, hI⟩
  refine Calls.spliced_nil (call_any_walkS (W.self 0 _ _ _ hst ⟨g, fp, wr, G, _, F, St, _, rfl, W, hst, htr, fun s' hmv => ?_⟩))
  obtain ⟨H2, hT, J⟩ := hI s' hmv
  rw [any_trD]
  exact ⟨.bl _, H2, J, rfl, hR H2 hT⟩
end
end DL

set_option Elab.async false
set_option linter.all false
set_option maxRecDepth 100000
set_option maxHeartbeats 4000000
/-! all and any of a generator expression, over data -/
namespace DL
open PySem PySem.Spec PyProof.Rows L2
variable [Tb]
def genOk (scope : Scope) (x : Str) : Bool := (match scope.kind with | .function => true | _ => false) && (!scope.isCoroutine && (scope.names.all (fun y => match y.2 with | .cell => false | .free => false | _ => true) &&
  ((match scope.names.lookup (".0" : Str) with | some .local => true | _ => false) && (match scope.names.lookup x with | some .local => true | _ => false))))
theorem gens_of {env : Env} {scope : Scope} {x : Str} (h : genOk scope x = true) : GxR.GenS env scope x := by
  unfold genOk at h
  simp only [Bool.and_eq_true, Bool.not_eq_true', List.all_eq_true] at h
  obtain ⟨h1, h2, h3, h4, h5⟩ := h
  refine ⟨?_, h2, fun y m e => ?_, ?_, ?_, fun y m e => ?_⟩
  · split at h1
    · assumption
    · cases h1
  · have := h3 y m
    rw [e] at this
    cases this
  · split at h4
    · assumption
    · cases h4
  · split at h5
    · assumption
    · cases h5
  · have := h3 y m
    rw [e] at this
    cases this
theorem SrcOk.sub {H : Hp} {S : List Addr} (h : SrcOk H S) : ∀ P ∈ (Tb.Ts : List Addr), P ∈ S := fun P m => by
  rcases h.1 with e | ⟨a, c, e, _⟩
  · rw [e]; exact m
  · rw [e]; exact List.mem_cons_of_mem _ (List.mem_cons_of_mem _ m)
theorem ext_tab {S : List Addr} {H H' : Hp} {P : Addr} (so : SrcOk H S) (m : P ∈ (Tb.Ts : List Addr)) (h : GxR.Tabbed P H H') : Ext S H H' := by
  have mS := so.sub P m
  obtain ⟨ps, eP, _⟩ := so.2 P m
  have same : ∀ b o, H b = some o → (∀ q, o ≠ .tbl q) → H' b = some o := fun b o e n => by
    rw [h.2 b (fun z => by rw [z, eP] at e; exact n _ (Option.some.inj e).symm)]
    exact e
  refine ⟨fun b o n e => by rw [h.2 b (fun z => n (by rw [z]; exact mS))]; exact e, fun _ => ⟨?_, fun Q mQ => ?_⟩⟩
  · rcases so.1 with e | ⟨a, c, e, cs, l, mm, t, h1, h2, h3⟩
    · exact .inl e
    · exact .inr ⟨a, c, e, cs, l, mm, t, same _ _ h1 (fun q z => by cases z), same _ _ h2 (fun q z => by cases z), h3⟩
  · by_cases z : Q = P
    · rw [z]; exact h.1
    · obtain ⟨qs, e, r⟩ := so.2 Q mQ
      exact ⟨qs, by rw [h.2 Q z]; exact e, r⟩
section
variable {X : Cx} {elt iter : Expr} {x : Str} {px p pos gpos : Pos} {scope : Scope} {ok : PyData → Prop} {pb : PyData → Bool} {fd : FuncData} {c P : Addr} {k : Nat} {w : WD}
def wAll (ok : PyData → Prop) (f : List PyData → Bool) (w : WD) : WR := fun sd Q => w sd fun d => match d with
  | .tuple ds => (∀ d ∈ ds, ok d) ∧ Q (.va (.bool (f ds)))
  | _ => False
theorem wAll_mo {ok : PyData → Prop} {f : List PyData → Bool} (h : Ev .sh X iter w) : ∀ sd (Q Q' : RV → Prop), (∀ r, Q r → Q' r) → wAll ok f w sd Q → wAll ok f w sd Q' := fun sd Q Q' k q => h.mo _ _ _ (fun d z => by
  cases d with
  | tuple ds => exact ⟨z.1, k _ z.2⟩
  | _ => exact z.elim) q
theorem wAll_run {f : List PyData → Bool} (h : Ev .sh X iter w) (m : P ∈ (Tb.Ts : List Addr)) {σ : L2.St} {H : Hp} {Q : VK} (q : tR X.K (wAll ok f w) σ H Q) :
    tM .sh X.K w σ H fun v H1 => ∃ (a : Addr) (xs : List V) (ds : List PyData) (O : List Addr), v = .ref a ∧ SqT X.K H1 a xs ∧ DxAll X.K (hid O H1) xs ds ∧ (∀ d ∈ ds, ok d) ∧ GxR.TabG H1 P ∧ ∀ H2, GxR.Tabbed P H1 H2 → Q (.bl (f ds)) H2 := by
  obtain ⟨c, sd, os, hk, r, q⟩ := q
  refine ⟨c, sd, os, hk, r, h.mo _ _ _ (fun d k v H1 x1 dm => ?_) q⟩
  cases d with
  | tuple ds =>
    obtain ⟨a, us, rfl, h1, h2⟩ := shTup dm
    have r1 := r.grow x1
    exact ⟨a, us, ds, OO c os, rfl, SqT.same hid_sub h1, h2, k.1, r1.srcNow.2 P m, fun H2 ht => k.2 _ H2 (x1.trans (ext_tab r1.srcNow m ht)) (.bl _)⟩
  | _ => exact k.elim
theorem evr_allG (G : GenT X.mg X.base fd c P) (hcode : X.env.code = fd.code) (hr : RmG k X.A) (hm : X.mg "all" = none) (hb : bootBuiltins "all" = some (.builtin "all")) (hgo : genOk scope x = true) (h : Ev .sh X iter w) (hel : EltD X scope x elt ok pb)
    (hg : Gl X "all" := by rfl) (hs : ∀ v, genFold iter X.env v = pure v := by intro _; rfl)
    (he : starEach [.GeneratorExp elt [⟨.Name x px, iter, [], 0⟩] scope gpos] X.env = (false, eval (.GeneratorExp elt [⟨.Name x px, iter, [], 0⟩] scope gpos) X.env) :: starEach [] X.env := by rfl) :
    EvR X (.Call (.Name "all" p) [.GeneratorExp elt [⟨.Name x px, iter, [], 0⟩] scope gpos] [] pos) (wAll ok (fun ds => ds.all pb) w) where
  pe := PE.weak (pe_allD hr.rm hg hm hb G.tb (hcode.trans G.hc) (gens_of hgo) h.pe hel hs he) fun σ H Q q => wAll_run h G.mem q
  mo := wAll_mo h
theorem evr_anyG (G : GenT X.mg X.base fd c P) (hcode : X.env.code = fd.code) (hr : RmG k X.A) (hm : X.mg "any" = none) (hb : bootBuiltins "any" = some (.builtin "any")) (hgo : genOk scope x = true) (h : Ev .sh X iter w) (hel : EltD X scope x elt ok pb)
    (hg : Gl X "any" := by rfl) (hs : ∀ v, genFold iter X.env v = pure v := by intro _; rfl)
    (he : starEach [.GeneratorExp elt [⟨.Name x px, iter, [], 0⟩] scope gpos] X.env = (false, eval (.GeneratorExp elt [⟨.Name x px, iter, [], 0⟩] scope gpos) X.env) :: starEach [] X.env := by rfl) :
    EvR X (.Call (.Name "any" p) [.GeneratorExp elt [⟨.Name x px, iter, [], 0⟩] scope gpos] [] pos) (wAll ok (fun ds => ds.any pb) w) where
  pe := PE.weak (pe_anyD hr.rm hg hm hb G.tb (hcode.trans G.hc) (gens_of hgo) h.pe hel hs he) fun σ H Q q => wAll_run h G.mem q
  mo := wAll_mo h
/-- the element f(x) -/
theorem elt_call1 {f : Addr} {fd : FuncData} {y : Str} {ps : List Str} {p1 p2 : Pos} (C : Cal X.K X.mg y f fd ps)
    (hq : ∀ (B : Kept) (D : Nat) (d : PyData) (u : Value), L2.Mod X.K X.mg X.base → (∀ b o, X.base.get? b = some o → B b o) → D < recursionLimit → Knd B u d → ok d → QFn X.prog X.w B D f [u] (· = .bool (pb d)))
    (hr : RmG (k + 1) X.A) (hx : scope.names.lookup x = some .local) (hy : scope.names.lookup y = some .globalImplicit) (hdx : (x == ("__debug__" : Str)) = false := by decide) (hdy : (y == ("__debug__" : Str)) = false := by decide) :
    EltD X scope x (.Call (.Name y p) [.Name x p1] [] p2) ok pb := fun B env m d u M hB qv hsc hm kd hok => by
  have hD : X.A.depth + 1 < recursionLimit := by have := hr.rm.dp; omega
  exact qe_call1 qv M hB (qe_loc qv (by show env.scope.names.lookup x = _; rw [hsc]; exact hx) hm hdx) (hq B _ d u M hB hD kd hok) (by show env.scope.names.lookup y = _; rw [hsc]; exact hy) C.hm C.hk hdy
end
end DL

set_option Elab.async false
set_option linter.all false
set_option maxRecDepth 100000
set_option maxHeartbeats 4000000
/-! <<, bit_length, loops over zip and over ranges with a step -/
namespace DL
open PySem PySem.Spec PyProof.Rows L2
variable [Tb]
section
variable {X : Cx} {e a b c0 tg iter : Expr} {body : List Stmt} {pos p apos tpos : Pos} {w : WD} {wl : WL} {g : WG} {wb : WS} {is : List Nat} {elts : List Expr} {kk : Nat}
theorem od_shl : OpD X (binaryOp .LShift) .sh .sh (rdInt CShl fun i j => .int (i * 2 ^ j.toNat)) := opd_int op_shlW fun _ _ _ _ => .int _
def wBits (w : WD) : WR := fun sd Q => w sd fun d => match d with
  | .int i => Q (.va (.int (Builtin.Int.intBits i : Nat)))
  | _ => False
theorem evr_bits (h : Ev .sh X e w) (hbase : attributeBase e "bit_length" X.env (eval e X.env) = eval e X.env := by rfl) (hline : (apos.endLine == pos.line) = true := by rfl) :
    EvR X (.Call (.Attribute e "bit_length" apos) [] [] pos) (wBits w) where
  pe := PE.weak (pe_bits h.pe hbase hline) fun σ H Q ⟨c, sd, os, hk, r, q⟩ => ⟨c, sd, os, hk, r, h.mo _ _ _ (fun d k v H1 x1 dm => by
    cases d with
    | int i => exact ⟨i, shInt dm, k _ H1 x1 (.int _)⟩
    | _ => exact k.elim) q⟩
  mo := fun sd Q Q' k q => h.mo _ _ _ (fun d z => by
    cases d with
    | int i => exact k _ z
    | _ => exact z.elim) q
/-- an iterator that may lay new things -/
def ItNew (K : PySem.W.Frag) (J : It) (ds : List PyData) (O : List Addr) (H : Hp) : Prop :=
  (∀ i d, ds[i]? = some d → J.go i H ∧ ∀ x H3, J.yld i H x H3 → Same H H3 ∧ ((∀ a ∈ O, H a ≠ none) → Dx K (hid O H3) x d)) ∧ ∀ i, ds.length ≤ i → J.stop i H
theorem ItOk.new {K : PySem.W.Frag} {J : It} {ds : List PyData} {O : List Addr} {H : Hp} (h : ItOk K J ds O H) : ItNew K J ds O H :=
  ⟨fun i d e => ⟨(h.1 i d e).1, fun x H3 y => by obtain ⟨rfl, k⟩ := (h.1 i d e).2 x H3 y; exact ⟨Same.refl _, fun _ => k⟩⟩, h.2⟩
theorem for_new (hg : EvG X tg is g) (hb : EvB X body wb) {c : Cd} {sd : SD} {os : List (Option Addr)} {σ : L2.St} {H : Hp} {D : Ends} {E : ED} {J : It} {ds : List PyData} (t : List (V × PyData))
    (hk : c.K = X.K) (r : R c sd os σ H) (er : ER c E D) (ht : ∀ p ∈ t, Dx c.K (hid (OO c os) H) p.1 p.2) (hJ : ∀ O H, (∀ p ∈ t, Dx c.K (hid O H) p.1 p.2) → ItNew c.K J ds O H) (q : forW g wb E ds sd) :
    ∃ W : Nat → Nat → L2.St → Hp → Prop, (∃ m, W 0 m σ H) ∧ ∀ i m σ H, W i m σ H →
      (J.stop i H ∧ D.nx σ H) ∨ (J.go i H ∧ ∃ N : L2.St → Hp → Prop, (∀ σ' H', N σ' H' → ∃ m', m' < m ∧ W (i + 1) m' σ' H') ∧ ∀ x H', J.yld i H x H' → tGt X.K is g x σ H' fun σ2 H2 => tSt X.K wb { D with nx := N, ct := N, bk := D.nx } σ2 H2) := by
  refine ⟨fun i m σ H => ∃ sd os, R { c with T := t ++ c.T } sd os σ H ∧ forW g wb E (ds.drop i) sd ∧ m = ds.length - i ∧ i ≤ ds.length, ⟨_, sd, os, r.more t ht, q, rfl, Nat.zero_le _⟩, ?_⟩
  rintro i m σ H ⟨sd, os, r, q, rfl, hi⟩
  have ok := hJ (OO c os) H fun p m => r.tmp p (List.mem_append_left _ m)
  by_cases hlt : i < ds.length
  · have eg := List.getElem?_eq_getElem hlt
    obtain ⟨go, yl⟩ := ok.1 i _ eg
    rw [List.drop_eq_getElem_cons hlt] at q
    refine .inr ⟨go, fun σ' H' => ∃ sd os, R { c with T := t ++ c.T } sd os σ' H' ∧ forW g wb E (ds.drop (i + 1)) sd, fun σ' H' ⟨sd, os, r, q⟩ => ⟨ds.length - (i + 1), by omega, sd, os, r, q, rfl, hlt⟩, fun x H' y => ?_⟩
    obtain ⟨sm, dx⟩ := yl x H' y
    have dx := dx fun a m => r.there (c := { c with T := t ++ c.T }) m
    have r := r.grow (Ext.of sm)
    refine ⟨{ c with T := t ++ c.T }, sd, os, ds[i], hk, r, by rw [← hk]; exact dx, hg.mo _ _ _ _ (fun s k σ' os' r' _ => ?_) q⟩
    refine ⟨{ c with T := t ++ c.T }, s, os', loopE E (forW g wb E (ds.drop (i + 1))), hk, r', ⟨fun sd os σ H r k => ⟨sd, os, r, k⟩, fun sd os σ H r k => er.nx _ _ _ _ r.less k, fun sd os σ H r k => ⟨sd, os, r, k⟩, er.rt⟩, k⟩
  · have e : i = ds.length := by omega
    subst e
    rw [List.drop_length] at q
    exact .inl ⟨ok.2 _ (Nat.le_refl _), er.nx _ _ _ _ r.less q⟩
def pairD (d e : PyData) : PyData := .tuple [d, e]
/-- what zip of two lists, or of two tuples, tells -/
def dZip (ds : List PyData) (k : List PyData → Prop) : Prop := match ds with
  | [.list xs, .list ys] => k (List.zipWith pairD xs ys)
  | [.tuple xs, .tuple ys] => k (List.zipWith pairD xs ys)
  | _ => False
theorem dZip_mo {ds : List PyData} {k k' : List PyData → Prop} (h : ∀ n, k n → k' n) (q : dZip ds k) : dZip ds k' := by
  unfold dZip at q ⊢
  split at q
  · exact h _ q
  · exact h _ q
  · exact q.elim
theorem it_zip {K : PySem.W.Frag} {O : List Addr} {H : Hp} {x y : Addr} {us vs : List V} {ds es : List PyData} (h1 : SqL K H x us) (h2 : SqL K H y vs) (d1 : DxAll K (hid O H) us ds) (d2 : DxAll K (hid O H) vs es) : ItNew K (Itz K x y) (List.zipWith pairD ds es) O H := by
  refine ⟨fun i d e => ?_, fun i l => ⟨us, vs, h1, h2, ?_⟩⟩
  · rw [List.getElem?_zipWith] at e
    obtain ⟨d', hd⟩ : ∃ d', ds[i]? = some d' := by
      cases q : ds[i]? with
      | none => rw [q] at e; cases e
      | some v => exact ⟨v, rfl⟩
    obtain ⟨e', he⟩ : ∃ e', es[i]? = some e' := by
      cases q : es[i]? with
      | none => rw [hd, q] at e; cases e
      | some v => exact ⟨v, rfl⟩
    rw [hd, he] at e
    cases e
    obtain ⟨u, gu, du⟩ := d1.get hd
    obtain ⟨v, gv, dv⟩ := d2.get he
    refine ⟨⟨us, vs, u, v, h1, h2, gu, gv⟩, fun z H3 ⟨T, x', y', e1, hT, e2, f1, f2⟩ => ?_⟩
    subst e1 e2
    have a1 := f1 us h1
    have a2 := f2 vs h2
    rw [gu] at a1; cases a1
    rw [gv] at a2; cases a2
    exact ⟨same_new hT, fun hO => rv_tup hT hO (.cons du (.cons dv .nil))⟩
  · rw [List.length_zipWith] at l
    rw [d1.len, d2.len]
    omega
theorem it_zipT {K : PySem.W.Frag} {O : List Addr} {H : Hp} {x y : Addr} {us vs : List V} {ds es : List PyData} (h1 : SqT K H x us) (h2 : SqT K H y vs) (d1 : DxAll K (hid O H) us ds) (d2 : DxAll K (hid O H) vs es) : ItNew K (RZ.ItzT K x y) (List.zipWith pairD ds es) O H := by
  refine ⟨fun i d e => ?_, fun i l => ⟨us, vs, h1, h2, ?_⟩⟩
  · rw [List.getElem?_zipWith] at e
    obtain ⟨d', hd⟩ : ∃ d', ds[i]? = some d' := by
      cases q : ds[i]? with
      | none => rw [q] at e; cases e
      | some v => exact ⟨v, rfl⟩
    obtain ⟨e', he⟩ : ∃ e', es[i]? = some e' := by
      cases q : es[i]? with
      | none => rw [hd, q] at e; cases e
      | some v => exact ⟨v, rfl⟩
    rw [hd, he] at e
    cases e
    obtain ⟨u, gu, du⟩ := d1.get hd
    obtain ⟨v, gv, dv⟩ := d2.get he
    refine ⟨⟨us, vs, u, v, h1, h2, gu, gv⟩, fun z H3 ⟨T, x', y', e1, hT, e2, f1, f2⟩ => ?_⟩
    subst e1 e2
    have a1 := f1 us h1
    have a2 := f2 vs h2
    rw [gu] at a1; cases a1
    rw [gv] at a2; cases a2
    exact ⟨same_new hT, fun hO => rv_tup hT hO (.cons du (.cons dv .nil))⟩
  · rw [List.length_zipWith] at l
    rw [d1.len, d2.len]
    omega
theorem DMs.two {K : PySem.W.Frag} {S O : List Addr} {H : Hp} {vs : List V} {d e : PyData} (h : DMs .cl K S O H vs [d, e]) : ∃ x y, vs = [x, y] ∧ Dx K (hid O H) x d ∧ Dx K (hid O H) y e := by
  cases h with
  | cons h1 t =>
    cases t with
    | cons h2 t => cases t; exact ⟨_, _, rfl, h1, h2⟩
/-- for .. in zip(a, b) -/
theorem evs_forZ (h : EvL .cl X [a, b] wl) (hg : EvG X (.Tuple elts kk tpos) is g) (hb : EvB X body wb) (hc : X.calm = true) (hm : X.mg "zip" = none) (hgl : Gl X "zip" := by rfl) (hp : PassesOwn (model X.prog X.w) X.A X.env X.xe := by exact PassesOwn.never)
    (h1 : starEach [a, b] X.env = (false, eval a X.env) :: starEach [b] X.env := by rfl) (h2 : (backTo pos (starEach [b] X.env)).any (·.1) = false := by rfl)
    (hs : ∀ x, foldedSetIterable (.Call (.Name "zip" p) [a, b] [] pos) X.env x = pure x := by intro _; rfl) {pos2 : Pos} :
    EvS X (.For (.Tuple elts kk tpos) (.Call (.Name "zip" p) [a, b] [] pos) body [] pos2) (fun E sd => wl sd fun vs => dZip vs fun ds => forW g wb E ds sd) where
  ps := PS.weak (ps_for hp hc (RZ.pi_zipA hgl hm h.pa h1 h2) hg.pg hb.ps hs) fun D σ H ⟨c, sd, os, E, hk, r, er, q⟩ =>
    ⟨c, sd, os, hk, r, h.mo _ _ _ (fun ds k vs H1 x1 dm => by
      have r1 := r.grow x1
      unfold dZip at k
      split at k
      · rename_i xs ys
        obtain ⟨x, y, rfl, dx, dy⟩ := DMs.two dm
        cases dx with
        | @lst ax us _ g1 g2 =>
          cases dy with
          | @lst ay ws _ g3 g4 =>
            refine ⟨ax, ay, us, ws, rfl, .inl ⟨.inl (.inl (hid_some g1).2), .inl (.inl (hid_some g3).2), for_new hg hb [(V.ref ax, PyData.list xs), (V.ref ay, PyData.list ys)] hk r1 er (fun p m => ?_) (fun O H2 ok => ?_) k⟩⟩
            · rw [hk]
              rcases List.mem_cons.mp m with rfl | m
              · exact .lst g1 g2
              · rw [List.mem_singleton.mp m]; exact .lst g3 g4
            · have o1 := ok _ List.mem_cons_self
              have o2 := ok _ (List.mem_cons_of_mem _ List.mem_cons_self)
              rw [hk] at o1 o2 ⊢
              cases o1 with
              | lst p1 p2 => cases o2 with
                | lst p3 p4 => exact it_zip (.inl (.inl (hid_some p1).2)) (.inl (.inl (hid_some p3).2)) p2 p4
      · rename_i xs ys
        obtain ⟨x, y, rfl, dx, dy⟩ := DMs.two dm
        cases dx with
        | @tup ax us _ g1 g2 =>
          cases dy with
          | @tup ay ws _ g3 g4 =>
            refine ⟨ax, ay, us, ws, rfl, .inr ⟨SqT.same hid_sub g1, SqT.same hid_sub g3, for_new hg hb [(V.ref ax, PyData.tuple xs), (V.ref ay, PyData.tuple ys)] hk r1 er (fun p m => ?_) (fun O H2 ok => ?_) k⟩⟩
            · rw [hk]
              rcases List.mem_cons.mp m with rfl | m
              · exact .tup g1 g2
              · rw [List.mem_singleton.mp m]; exact .tup g3 g4
            · have o1 := ok _ List.mem_cons_self
              have o2 := ok _ (List.mem_cons_of_mem _ List.mem_cons_self)
              rw [hk] at o1 o2 ⊢
              cases o1 with
              | tup p1 p2 => cases o2 with
                | tup p3 p4 => exact it_zipT (SqT.same hid_sub p1) (SqT.same hid_sub p3) p2 p4
      · exact k.elim) q⟩
  mo := fun E E' sd k1 k2 _ _ q => h.mo _ _ _ (fun ds y => dZip_mo (fun n y => forW_mo hg hb k1 k2 _ _ y) y) q
/-- the numbers of a range with a step -/
def stepD' (lo c : Int) (n : Nat) : List PyData := (List.range n).map fun (k : Nat) => PyData.int (lo + k * c)
theorem it_rc {K : PySem.W.Frag} {O : List Addr} {H : Hp} {lo c : Int} {n : Nat} : ItNew K (Itc lo c n) (stepD' lo c n) O H := by
  refine ⟨fun i d e => ?_, fun i l => ?_⟩
  · unfold stepD' at e
    rw [List.getElem?_map] at e
    cases q : (List.range n)[i]? with
    | none => rw [q] at e; cases e
    | some k =>
      rw [q] at e
      obtain ⟨l, e2⟩ := List.getElem?_eq_some_iff.mp q
      rw [List.getElem_range] at e2
      rw [List.length_range] at l
      subst e2
      cases e
      refine ⟨l, fun x H3 y => ?_⟩
      obtain ⟨rfl, rfl⟩ := y
      exact ⟨Same.refl _, fun _ => .int _⟩
  · unfold stepD' at l
    rw [List.length_map, List.length_range] at l
    exact l
/-- range going down -/
def dRng3 (ds : List PyData) (k : Int → Nat → Prop) : Prop := match ds with
  | [.int i, .int j, .int c] => (-(2 ^ 62) ≤ i ∧ i < 2 ^ 62 ∧ -(2 ^ 62) ≤ j ∧ j < 2 ^ 62 ∧ c = -1) ∧ k i (i - j).toNat
  | _ => False
theorem dRng3_mo {ds : List PyData} {k k' : Int → Nat → Prop} (h : ∀ i n, k i n → k' i n) (q : dRng3 ds k) : dRng3 ds k' := by
  unfold dRng3 at q ⊢
  split at q
  · exact ⟨q.1, h _ _ q.2⟩
  · exact q.elim
theorem evs_forR3 (h : EvL .cl X [a, b, c0] wl) (hg : EvG X tg is g) (hb : EvB X body wb) (hc : X.calm = true) (hm : X.mg "range" = none) (hgl : Gl X "range" := by rfl) (hp : PassesOwn (model X.prog X.w) X.A X.env X.xe := by exact PassesOwn.never)
    (h1 : starEach [a, b, c0] X.env = (false, eval a X.env) :: starEach [b, c0] X.env := by rfl) (h2 : (backTo pos (starEach [b, c0] X.env)).any (·.1) = false := by rfl)
    (hs : ∀ x, foldedSetIterable (.Call (.Name "range" p) [a, b, c0] [] pos) X.env x = pure x := by intro _; rfl) {pos2 : Pos} :
    EvS X (.For tg (.Call (.Name "range" p) [a, b, c0] [] pos) body [] pos2) (fun E sd => wl sd fun vs => dRng3 vs fun i n => forW g wb E (stepD' i (-1) n) sd) where
  ps := PS.weak (ps_for hp hc (pi_range3 hgl hm h.pa h1 h2) hg.pg hb.ps hs) fun D σ H ⟨c, sd, os, E, hk, r, er, q⟩ =>
    ⟨c, sd, os, hk, r, h.mo _ _ _ (fun ds k vs H1 x1 dm => by
      unfold dRng3 at k
      split at k
      · obtain ⟨⟨k1, k2, k3, k4, rfl⟩, k⟩ := k
        cases dm with
        | cons m1 t => cases t with
          | cons m2 t => cases t with
            | cons m3 t =>
              cases t
              cases (show Dx _ _ _ _ from m1)
              cases (show Dx _ _ _ _ from m2)
              cases (show Dx _ _ _ _ from m3)
              exact ⟨_, _, _, _, rfl, RgC.neg k1 k2 k3 k4, for_new hg hb [] hk (r.grow x1) er (fun p m => by cases m) (fun O H _ => it_rc) k⟩
      · exact k.elim) q⟩
  mo := fun E E' sd k1 k2 _ _ q => h.mo _ _ _ (fun ds y => dRng3_mo (fun i n y => forW_mo hg hb k1 k2 _ _ y) y) q
end
end DL

set_option Elab.async false
set_option linter.all false
set_option maxRecDepth 100000
set_option maxHeartbeats 400000
/-! addresses with right numbers; where two part -/
namespace DL
open PySem PySem.Spec PyProof.Rows L2
variable [Tb]
abbrev bitsI (k : Int) : Nat := Builtin.Int.intBits k
/-- whether numbers tell a part, or a copy -/
def tellB (r : Rw) (ns : List Int) : Bool := match ns with
  | [] => false
  | k :: rest => if k < 0 then false else match r with
    | .mix _ => (match rest with
      | [n] => decide (k % 2 = 1) && decide ((bitsI k : Int) ≤ n)
      | _ => false)
    | .join rs => decide (k < (rs.length : Int))
    | _ => true
/-- numbers such as are drawn -/
def skey : Rw → List Int → Bool
  | .mix _, ns => (match ns with
    | [k, n] => decide (0 ≤ k) && (decide (k % 2 = 1) && (decide (k < 64) && (decide ((bitsI k : Int) ≤ n) && decide (n ≤ 6))))
    | _ => false)
  | _, _ => true
theorem skey_tell {r s : Rw} {key : List Int} (h : Step r key s) (k : skey r key = true) : tellB r key = true := by
  cases h with
  | @join rs _ i h =>
    have := (List.getElem?_eq_some_iff.mp h).1
    simp only [tellB]
    rw [if_neg (by omega)]
    exact decide_eq_true (by omega)
  | right i => simp only [tellB]; rw [if_neg (by omega)]
  | left i => simp only [tellB]; rw [if_neg (by omega)]
  | mix i n h =>
    simp only [skey, Bool.and_eq_true, decide_eq_true_eq] at k
    simp only [tellB]
    rw [if_neg (by omega), decide_eq_true k.2.1, decide_eq_true k.2.2.2.1]
    rfl
inductive AdS : Rw → List Int → Prop
  | let (c : _root_.Fin 26) : AdS (.let c) []
  | step {r s : Rw} {key p : List Int} (h : Step r key s) (k : skey r key = true) (t : AdS s p) : AdS r (key ++ p)
theorem AdS.ad {r : Rw} {p : List Int} (h : AdS r p) : Ad r p := by
  induction h with
  | «let» c => exact .let c
  | step h _ _ ih => exact .step h ih
theorem AdS.tail {r s : Rw} {key p : List Int} (h : AdS r (key ++ p)) (st : Step r key s) : skey r key = true ∧ AdS s p := by
  generalize e : key ++ p = q at h
  cases h with
  | «let» c => cases st
  | @step _ s' key' p' st' k t =>
    obtain ⟨rfl, rfl⟩ := List.append_inj e (by rw [st.len, st'.len])
    obtain rfl := st.det st'
    exact ⟨k, t⟩
theorem Ad.len {r : Rw} {p : List Int} (h : Ad r p) : p.length ≤ 2 * r.dep := by
  induction h with
  | «let» c => simp
  | step st t ih =>
    have h1 := st.dep
    have h2 := st.len
    rw [List.length_append, h2]
    split <;> omega
theorem cut_postL (key p : List Int) : cutD ((key ++ p).map PyData.int) (some ((key.map PyData.int).length : Int)) none = p.map PyData.int := by rw [List.length_map, cut_postI]
theorem cut_midL (pre key post : List Int) : cutD ((pre ++ (key ++ post)).map PyData.int) (some ((pre.map PyData.int).length : Int)) (some (((pre.map PyData.int).length : Int) + (key.length : Int))) = key.map PyData.int := by rw [List.length_map, cutD_map, cut_mid]
/-- where two addresses part: the row there, the two keys, how far in; none if they don't -/
abbrev Par := Option (Rw × List Int × List Int × Nat)
inductive Prt : Rw → List Int → List Int → Nat → Par → Prop
  | let (c : _root_.Fin 26) (n : Nat) : Prt (.let c) [] [] n none
  | same {r s : Rw} {key p q : List Int} {n : Nat} {o : Par} (h : Step r key s) (t : Prt s p q (n + key.length) o) : Prt r (key ++ p) (key ++ q) n o
  | diff {r s s' : Rw} {k k' p q : List Int} {n : Nat} (h : Step r k s) (h' : Step r k' s') (ne : k ≠ k') : Prt r (k ++ p) (k' ++ q) n (some (r, k, k', n))
theorem prt_of {r : Rw} {p : List Int} (h : Ad r p) : ∀ {q : List Int} (n : Nat), Ad r q → ∃ o, Prt r p q n o := by
  induction h with
  | «let» c =>
    intro q n h
    cases h with
    | «let» _ => exact ⟨_, .let c n⟩
    | step h _ => cases h
  | @step r s key p st t ih =>
    intro q n h
    cases h with
    | «let» _ => cases st
    | @step _ s' key' p' st' t' =>
      by_cases e : key = key'
      · subst e
        obtain rfl := st.det st'
        obtain ⟨o, h⟩ := ih (n + key.length) t'
        exact ⟨o, .same st h⟩
      · exact ⟨_, .diff st st' e⟩
theorem Prt.ads {r : Rw} {p q : List Int} {n : Nat} {o : Par} (h : Prt r p q n o) : AdS r p → AdS r q → ∀ r' k k' m, o = some (r', k, k', m) → skey r' k = true ∧ skey r' k' = true ∧ k ≠ k' ∧ ∃ s s', Step r' k s ∧ Step r' k' s' := by
  induction h with
  | «let» c n => intro _ _ _ _ _ _ e; cases e
  | same st t ih => exact fun a b => ih (a.tail st).2 (b.tail st).2
  | @diff r s s' k k' p q n st st' ne =>
    intro a b _ _ _ _ e
    cases e
    exact ⟨(a.tail st).1, (b.tail st').1, ne, _, _, st, st'⟩
theorem Prt.none_iff {r : Rw} {p q : List Int} {n : Nat} {o : Par} (h : Prt r p q n o) : o = none ↔ p = q := by
  induction h with
  | «let» c n => simp
  | same st t ih => rw [ih]; simp
  | @diff r s s' k k' p q n st st' ne =>
    refine ⟨fun z => (by cases z), fun z => absurd (List.append_inj z (by rw [st.len, st'.len])).1 ne⟩
theorem Way.inv {r : Rw} {p : List Int} {n : Nat} {ss : List (Rw × List Int × Nat)} {c : _root_.Fin 26} (h : Way r p n ss c) : (ss = [] ∧ p = [] ∧ r = .let c) ∨ ∃ (key p' : List Int) (s : Rw) (ss' : List (Rw × List Int × Nat)), p = key ++ p' ∧ ss = (r, key, n) :: ss' ∧ Step r key s ∧ Way s p' (n + key.length) ss' c := by
  cases h with
  | «let» _ _ => exact .inl ⟨rfl, rfl, rfl⟩
  | step st t => exact .inr ⟨_, _, _, _, rfl, rfl, st, t⟩
theorem Prt.letn {c : _root_.Fin 26} {p q : List Int} {n : Nat} {o : Par} (h : Prt (.let c) p q n o) : o = none := by
  cases h with
  | «let» _ _ => rfl
  | same st t => cases st
  | diff st st' ne => cases st
theorem Prt.inv {r s s' : Rw} {k k' a b : List Int} {n : Nat} {o : Par} (h : Prt r (k ++ a) (k' ++ b) n o) (st : Step r k s) (st' : Step r k' s') : (k = k' ∧ Prt s a b (n + k.length) o) ∨ (k ≠ k' ∧ o = some (r, k, k', n)) := by
  generalize e1 : k ++ a = p at h
  generalize e2 : k' ++ b = q at h
  cases h with
  | «let» _ _ => cases st
  | @same _ s2 key p2 q2 _ _ st2 t =>
    obtain ⟨rfl, rfl⟩ := List.append_inj e1 (by rw [st.len, st2.len])
    obtain ⟨rfl, rfl⟩ := List.append_inj e2 (by rw [st'.len, st2.len])
    obtain rfl := st.det st2
    exact .inl ⟨rfl, t⟩
  | @diff _ s2 s3 k2 k3 p2 q2 _ st2 st3 ne =>
    obtain ⟨rfl, rfl⟩ := List.append_inj e1 (by rw [st.len, st2.len])
    obtain ⟨rfl, rfl⟩ := List.append_inj e2 (by rw [st'.len, st3.len])
    exact .inr ⟨ne, rfl⟩
/-- whether one part or copy stands ahead of another one -/
def keyB : Rw → List Int → List Int → Bool
  | .mix rs, k, k' => (match k, k' with
    | [a, m], [b, n] => decide (a * 2 ^ n.toNat < b * 2 ^ m.toNat)
    | _, _ => false)
  | r, k, k' => keyA r k k'
def ahdB : Par → Bool
  | none => false
  | some (r, k, k', _) => keyB r k k'
theorem six (n : Nat) (h : n < 6) : ([.int 1, .int 2, .int 4, .int 8, .int 16, .int 32] : List PyData)[n]? = some (.int ((2 ^ n : Nat) : Int)) := by
  match n, h with
  | 0, _ => rfl
  | 1, _ => rfl
  | 2, _ => rfl
  | 3, _ => rfl
  | 4, _ => rfl
  | 5, _ => rfl
theorem bits_six : ∀ n : _root_.Fin 6, ∀ k : _root_.Fin 32, k.val < 2 ^ n.val → bitsI ((1 + 2 * k.val : Nat) : Int) ≤ n.val + 1 := by decide +kernel
theorem skey_mix {rs : List Rw} {n k : Nat} (hn : n < 6) (hk : k < 2 ^ n) : skey (.mix rs) [((1 + 2 * k : Nat) : Int), ((n + 1 : Nat) : Int)] = true := by
  have h32 : 2 ^ n ≤ 2 ^ 5 := Nat.pow_le_pow_right (by decide) (by omega)
  have h32' : (2 : Nat) ^ 5 = 32 := rfl
  have hb := bits_six ⟨n, hn⟩ ⟨k, by omega⟩ hk
  simp only [skey, Bool.and_eq_true, decide_eq_true_eq]
  refine ⟨by omega, by omega, by omega, ?_, by omega⟩
  have : bitsI ((1 + 2 * k : Nat) : Int) ≤ n + 1 := hb
  exact Int.ofNat_le.mpr this
theorem skey_not {r : Rw} (h : r.isM = false) (key : List Int) : skey r key = true := by cases r <;> first | rfl | cases h
theorem cshl_ok {a b : Int} (h0 : 0 ≤ a) (h1 : a < 64) (h2 : 0 ≤ b) (h3 : b ≤ 64) : CShl a b := by
  obtain ⟨n, rfl⟩ := Int.eq_ofNat_of_zero_le h2
  exact shl_ok (n := 6) (by show a.natAbs < 64; omega) (by omega)
theorem good_bool (b : Bool) : Good (.bool b) := good_pl (by simp [pl]) (by simp only [PyData.depth]; omega) (by simp only [wt]; omega)
theorem good_int {i : Int} (h : smI i = true) : Good (.int i) := good_pl (by simp [pl, h]) (by simp only [PyData.depth]; omega) (by simp only [wt]; omega)
theorem good_let (c : _root_.Fin 26) : Good (Rw.let c).toD := good_row (.let c) (by simp [Rw.dep]) (by simp [Rw.nodes])
end DL

set_option Elab.async false
set_option linter.all false
set_option maxRecDepth 100000
set_option maxHeartbeats 400000
/-! the place next to a place -/
namespace DL
open PySem PySem.Spec PyProof.Rows L2
variable [Tb]
def Rw.isLf : Rw → Bool | .left _ => true | _ => false
/-- the number beside k, on the side s: false behind, true ahead -/
def bes (s : Bool) (r : Rw) (k : Int) : Int := if r.isLf = s then k + 1 else k - 1
def partR : Rw → Int → Rw
  | .join rs, i => rs.getD i.toNat (.let 0)
  | .right r, _ => r
  | .left r, _ => r
  | r, _ => r
/-- one level: whether it is decided there, and what -/
def stepF (s : Bool) (r : Rw) : List Int → Option (Option (List Int))
  | [] => none
  | k :: _ => if r.isM then some none else if tellB r [bes s r k] = true then some (((partR r (bes s r k)).ep s).map (bes s r k :: ·)) else none
def combF (s : Bool) (r : Rw) (key : List Int) : Option (Option (List Int)) → Option (Option (List Int))
  | some (some q) => some (some (key ++ q))
  | some none => some none
  | none => stepF s r key
def nbF (s : Bool) : List (Rw × List Int × Nat) → Option (Option (List Int))
  | [] => none
  | (r, key, _) :: ss => combF s r key (nbF s ss)
/-- the place next to a place -/
def nbP (s : Bool) (ss : List (Rw × List Int × Nat)) : Option (List Int) := (nbF s ss).join
theorem tell_step {s : Bool} {r t : Rw} {k : Int} (st : Step r [k] t) (hm : r.isM = false) (h : tellB r [bes s r k] = true) : Step r [bes s r k] (partR r (bes s r k)) := by
  have h0 : ¬ bes s r k < 0 := fun z => by simp only [tellB, if_pos z] at h; cases h
  simp only [tellB, if_neg h0] at h
  generalize bes s r k = b at *
  obtain ⟨n, rfl⟩ := Int.eq_ofNat_of_zero_le (Int.not_lt.mp h0)
  generalize e : [k] = key at st
  cases st with
  | @join rs _ i hi =>
    have hl : n < rs.length := by have := of_decide_eq_true h; omega
    refine .join n ?_
    show rs[n]? = some (rs.getD n (.let 0))
    rw [List.getD_eq_getElem?_getD, List.getElem?_eq_getElem hl]; rfl
  | right i => exact .right n
  | left i => exact .left n
  | mix _ _ _ => cases hm
theorem bes_back (s : Bool) (r : Rw) (k : Int) : bes (!s) r (bes s r k) = k := by
  unfold bes
  cases s <;> cases r.isLf <;> simp
theorem step_one {r t : Rw} {key : List Int} (st : Step r key t) (hm : r.isM = false) : ∃ k : Nat, key = [(k : Int)] := by
  cases st with
  | join k h => exact ⟨k, rfl⟩
  | right i => exact ⟨i, rfl⟩
  | left i => exact ⟨i, rfl⟩
  | mix _ _ _ => cases hm
theorem tell_of {r t : Rw} {k : Int} (st : Step r [k] t) (hm : r.isM = false) : tellB r [k] = true := skey_tell st (skey_not hm _)
theorem part_of {r t : Rw} {k : Int} (st : Step r [k] t) (hm : r.isM = false) : partR r k = t := by
  generalize e : [k] = key at st
  cases st with
  | @join rs _ i hi =>
    have : k = (i : Int) := (List.cons.inj e).1
    subst this
    show rs.getD (i : Int).toNat (.let 0) = _
    rw [Int.toNat_natCast, List.getD_eq_getElem?_getD, hi]; rfl
  | right i => rfl
  | left i => rfl
  | mix _ _ _ => cases hm
/-- nothing is decided exactly at the end on that side -/
theorem nbF_none (s : Bool) {r : Rw} {p : List Int} {n : Nat} {ss : List (Rw × List Int × Nat)} {c : _root_.Fin 26} (w : Way r p n ss c) : nbF s ss = none ↔ r.ep (!s) = some p := by
  induction w with
  | «let» c n => simp [nbF, Rw.ep]
  | @step r t key p n ss c st w ih =>
    simp only [nbF]
    have hc : combF s r key (nbF s ss) = none ↔ nbF s ss = none ∧ stepF s r key = none := by
      cases h : nbF s ss with
      | none => simp [combF]
      | some o => cases o <;> simp [combF]
    rw [hc, ih]
    by_cases hm : r.isM = true
    · obtain ⟨k, rest, e⟩ : ∃ k rest, key = k :: rest := by cases st <;> exact ⟨_, _, rfl⟩
      subst e
      have e2 : r.ep (!s) = none := by cases r <;> first | rfl | cases hm
      simp only [stepF, hm, if_true, e2]
      simp
    · have hm : r.isM = false := by simpa using hm
      obtain ⟨k, rfl⟩ := step_one st hm
      simp only [stepF, hm, Bool.false_eq_true, if_false]
      have hk : tellB r [bes s r (k : Int)] = false ↔ (match r with | .join rs => (if s = true then k = 0 else k + 1 = rs.length) | .left _ => s = false ∧ k = 0 | .right _ => s = true ∧ k = 0 | _ => False) := by
        cases st with
        | @join rs _ _ hi =>
          have hl := (List.getElem?_eq_some_iff.mp hi).1
          cases s <;> simp [tellB, bes, Rw.isLf] <;> omega
        | right i => cases s <;> simp [tellB, bes, Rw.isLf] <;> omega
        | left i => cases s <;> simp [tellB, bes, Rw.isLf] <;> omega
      have hif : (if tellB r [bes s r (k : Int)] = true then some (((partR r (bes s r (k : Int))).ep s).map (bes s r (k : Int) :: ·)) else none) = none ↔ tellB r [bes s r (k : Int)] = false := by
        cases tellB r [bes s r (k : Int)] <;> simp
      rw [hif, hk]
      cases st with
      | @join rs _ _ hi =>
        have hl := (List.getElem?_eq_some_iff.mp hi).1
        cases s with
        | false =>
          simp only [Rw.ep, Bool.not_false, if_true, Bool.false_eq_true, if_false, List.singleton_append]
          by_cases e : k + 1 = rs.length
          · have e2 : rs[rs.length - 1]? = some t := by rw [← e]; exact hi
            rw [Rw.epL_eq true rs e2]
            have e3 : ((rs.length - 1 : Nat) : Int) = (k : Int) := by omega
            rw [e3]
            cases t.ep true <;> simp [e]
          · simp only [e, and_false, false_iff]
            cases h : Rw.epL true rs with
            | none => simp
            | some x => simp; omega
        | true =>
          simp only [Rw.ep, Bool.not_true, if_true, Bool.false_eq_true, if_false, List.singleton_append]
          by_cases e : k = 0
          · subst e
            rw [Rw.epH_eq false rs hi]
            cases t.ep false <;> simp
          · simp only [e, and_false, false_iff]
            cases h : Rw.epH false rs with
            | none => simp
            | some x => simp; omega
      | right i =>
        cases s with
        | false => simp [Rw.ep]
        | true =>
          simp only [Rw.ep, Bool.not_true, Bool.false_eq_true, if_false, List.singleton_append]
          cases t.ep false <;> simp [eq_comm, and_comm]
      | left i =>
        cases s with
        | true => simp [Rw.ep]
        | false =>
          simp only [Rw.ep, Bool.not_false, if_true, List.singleton_append]
          cases t.ep true <;> simp [eq_comm, and_comm]
end DL
namespace DL
open PySem PySem.Spec PyProof.Rows L2
variable [Tb]
theorem combF_some {s : Bool} {r : Rw} {key q : List Int} {o : Option (Option (List Int))} (h : combF s r key o = some (some q)) : (∃ q', o = some (some q') ∧ q = key ++ q') ∨ (o = none ∧ stepF s r key = some (some q)) := by
  cases o with
  | none => exact .inr ⟨rfl, h⟩
  | some o =>
    cases o with
    | none => cases h
    | some q' => cases h; exact .inl ⟨q', rfl, rfl⟩
theorem Ad.way' {r : Rw} {p : List Int} (h : AdS r p) (n : Nat) : ∃ ss c, Way r p n ss c := h.ad.way n
theorem ep_ads {s : Bool} (r : Rw) : ∀ {p : List Int}, r.ep s = some p → AdS r p := by
  refine rw_ind (P := fun r => ∀ {p : List Int}, r.ep s = some p → AdS r p) (fun r ih p h => ?_) r
  rcases ep_first h with ⟨c, rfl, rfl⟩ | ⟨k, t, p', st, h1, rfl, h2, _, _⟩
  · exact .let c
  · have hm : r.isM = false := by cases st <;> rfl
    exact .step (key := [(k : Int)]) st (skey_not hm _) (ih t st.nodes h1)
/-- the number beside, and the order -/
theorem bes_ahd {s : Bool} {r t t' : Rw} {k : Int} (st : Step r [k] t) (hm : r.isM = false) : keyB r (if s then [bes s r k] else [k]) (if s then [k] else [bes s r k]) = true := by
  generalize e : [k] = key at st
  cases st with
  | join i hi => have := (List.cons.inj e).1; subst this; cases s <;> simp [keyB, keyA, bes, Rw.isLf] <;> omega
  | right i => have := (List.cons.inj e).1; subst this; cases s <;> simp [keyB, keyA, bes, Rw.isLf] <;> omega
  | left i => have := (List.cons.inj e).1; subst this; cases s <;> simp [keyB, keyA, bes, Rw.isLf] <;> omega
  | mix _ _ _ => cases hm
theorem nbF_some (s : Bool) {r : Rw} {p : List Int} {n : Nat} {ss : List (Rw × List Int × Nat)} {c : _root_.Fin 26} (w : Way r p n ss c) : AdS r p → ∀ q, nbF s ss = some (some q) →
    AdS r q ∧ (∀ ss' c', Way r q n ss' c' → nbF (!s) ss' = some (some p)) ∧ ∃ o, Prt r (if s then q else p) (if s then p else q) n o ∧ ahdB o = true := by
  induction w with
  | «let» c n => intro _ q h; cases h
  | @step r t key p n ss c st w ih =>
    intro ap q h
    obtain ⟨hk, tp⟩ := ap.tail st
    rcases combF_some h with ⟨q', h1, rfl⟩ | ⟨h1, h2⟩
    · obtain ⟨a, b, o, c1, c2⟩ := ih tp q' h1
      refine ⟨.step st hk a, fun ss' c' w' => ?_, o, ?_, c2⟩
      · rcases Way.inv w' with ⟨_, e, _⟩ | ⟨key2, q2, t2, ss2, e, rfl, st2, w2⟩
        · exfalso
          have := congrArg List.length e
          have hl := st.len
          rw [List.length_append, hl] at this
          simp only [List.length_nil] at this
          split at this <;> omega
        · obtain ⟨rfl, rfl⟩ := List.append_inj e (by rw [st.len, st2.len])
          obtain rfl := st.det st2
          show combF (!s) r key (nbF (!s) ss2) = _
          rw [b ss2 c' w2]
          rfl
      · cases s
        · exact .same st c1
        · exact .same st c1
    · have hn := (nbF_none s w).mp h1
      by_cases hm : r.isM = true
      · exfalso
        obtain ⟨k, rest, e⟩ : ∃ k rest, key = k :: rest := by cases st <;> exact ⟨_, _, rfl⟩
        subst e
        simp [stepF, hm] at h2
      · have hm : r.isM = false := by simpa using hm
        obtain ⟨k, rfl⟩ := step_one st hm
        simp only [stepF, hm, Bool.false_eq_true, if_false] at h2
        by_cases ht : tellB r [bes s r (k : Int)] = true
        · rw [if_pos ht] at h2
          have h2 := Option.some.inj h2
          obtain ⟨e, he, rfl⟩ := Option.map_eq_some_iff.mp h2
          have st' := tell_step st hm ht
          have ae := ep_ads _ he
          refine ⟨.step (key := [bes s r (k : Int)]) st' (skey_not hm _) ae, fun ss' c' w' => ?_, ?_⟩
          · rcases Way.inv w' with ⟨_, e2, _⟩ | ⟨key2, q2, t2, ss2, e2, rfl, st2, w2⟩
            · cases e2
            · obtain ⟨rfl, rfl⟩ := List.append_inj (show [bes s r (k : Int)] ++ e = key2 ++ q2 from e2) (by rw [st'.len, st2.len])
              obtain rfl := st'.det st2
              have hn2 : nbF (!s) ss2 = none := (nbF_none (!s) w2).mpr (by rw [Bool.not_not]; exact he)
              show combF (!s) r [bes s r (k : Int)] (nbF (!s) ss2) = _
              rw [hn2]
              show stepF (!s) r [bes s r (k : Int)] = _
              simp only [stepF, hm, Bool.false_eq_true, if_false]
              rw [bes_back, if_pos (tell_of st hm), part_of st hm, hn]
              rfl
          · have ne : (k : Int) ≠ bes s r (k : Int) := by unfold bes; split <;> omega
            have hb := bes_ahd (s := s) (t' := t) st hm
            cases s
            · exact ⟨_, .diff (k := [(k : Int)]) (k' := [bes false r (k : Int)]) st st' (fun z => ne (List.cons.inj z).1), hb⟩
            · exact ⟨_, .diff (k := [bes true r (k : Int)]) (k' := [(k : Int)]) st' st (fun z => ne (List.cons.inj z).1.symm), hb⟩
        · rw [if_neg ht] at h2
          cases h2
/-- numbers stay small -/
def Bd (M : Int) (p : List Int) : Prop := ∀ x ∈ p, 0 ≤ x ∧ x < M
theorem Bd.mono {M N : Int} {p : List Int} (h : Bd M p) (l : M ≤ N) : Bd N p := fun x m => ⟨(h x m).1, Int.lt_of_lt_of_le (h x m).2 l⟩
theorem nbF_bd (s : Bool) {M : Int} {r : Rw} {p : List Int} {n : Nat} {ss : List (Rw × List Int × Nat)} {c : _root_.Fin 26} (w : Way r p n ss c) (hM : (r.nodes : Int) < M) : Bd M p → ∀ q, nbF s ss = some (some q) → Bd (M + 1) q := by
  induction w with
  | «let» c n => intro _ q h; cases h
  | @step r t key p n ss c st w ih =>
    intro bp q h
    have hno := st.nodes
    rcases combF_some h with ⟨q', h1, rfl⟩ | ⟨h1, h2⟩
    · have := ih (by omega) (fun x m => bp x (List.mem_append_right _ m)) q' h1
      intro x m
      rcases List.mem_append.mp m with m | m
      · have := bp x (List.mem_append_left _ m); omega
      · exact this x m
    · by_cases hm : r.isM = true
      · exfalso
        obtain ⟨k, rest, e⟩ : ∃ k rest, key = k :: rest := by cases st <;> exact ⟨_, _, rfl⟩
        subst e
        simp [stepF, hm] at h2
      · have hm : r.isM = false := by simpa using hm
        obtain ⟨k, rfl⟩ := step_one st hm
        simp only [stepF, hm, Bool.false_eq_true, if_false] at h2
        by_cases ht : tellB r [bes s r (k : Int)] = true
        · rw [if_pos ht] at h2
          obtain ⟨e, he, rfl⟩ := Option.map_eq_some_iff.mp (Option.some.inj h2)
          have st' := tell_step st hm ht
          have hno' := st'.nodes
          have hk := bp (k : Int) (List.mem_append_left _ List.mem_cons_self)
          have hb : 0 ≤ bes s r (k : Int) := by
            rcases Int.lt_or_le (bes s r (k : Int)) 0 with z | z
            · simp only [tellB, if_pos z] at ht; cases ht
            · exact z
          have hb2 : bes s r (k : Int) ≤ (k : Int) + 1 := by unfold bes; split <;> omega
          intro x m
          rcases List.mem_cons.mp m with rfl | m
          · exact ⟨hb, by omega⟩
          · have := (ep_sm _ he).1 x m; omega
        · rw [if_neg ht] at h2
          cases h2
end DL
namespace DL
open PySem PySem.Spec PyProof.Rows L2
variable [Tb]
theorem way_split {x : Rw × List Int × Nat} {done : List (Rw × List Int × Nat)} {c : _root_.Fin 26} : ∀ (init : List (Rw × List Int × Nat)) {r : Rw} {p : List Int} {n : Nat}, Way r p n (init ++ x :: done) c →
    ∃ pre rest t, p = pre ++ (x.2.1 ++ rest) ∧ x.2.2 = n + pre.length ∧ Step x.1 x.2.1 t ∧ Way t rest (n + pre.length + x.2.1.length) done c ∧ x.1.nodes ≤ r.nodes ∧ (r.wf = true → x.1.wf = true) ∧ (∀ s o, nbF s (x :: done) = some o → nbF s (init ++ x :: done) = some (o.map (pre ++ ·))) ∧ pre = (init.map (·.2.1)).flatten
  | [], r, p, n, w => by
    rcases Way.inv w with ⟨e, _, _⟩ | ⟨key, p', t, ss', rfl, e, st, w'⟩
    · cases e
    · obtain ⟨rfl, rfl⟩ := List.cons.inj e
      exact ⟨[], p', t, rfl, rfl, st, w', Nat.le_refl _, id, fun s o h => by rw [List.nil_append, h]; cases o <;> rfl, rfl⟩
  | y :: init, r, p, n, w => by
    rcases Way.inv w with ⟨e, _, _⟩ | ⟨key, p', t, ss', rfl, e, st, w'⟩
    · cases e
    · obtain ⟨rfl, rfl⟩ := List.cons.inj e
      obtain ⟨pre, rest, t2, rfl, e2, st2, w2, h1, h2, h3, h4⟩ := way_split init w'
      refine ⟨key ++ pre, rest, t2, by rw [List.append_assoc], by rw [List.length_append, e2]; omega, st2, by rw [List.length_append, ← Nat.add_assoc]; exact w2, by have := st.nodes; omega, fun h => h2 (st.wf h), fun s o h => ?_, by rw [h4]; rfl⟩
      show combF s r key (nbF s (init ++ x :: done)) = _
      rw [h3 s o h]
      cases o with
      | none => rfl
      | some q => show some (some (key ++ (pre ++ q))) = some (some ((key ++ pre) ++ q)); rw [List.append_assoc]
end DL
namespace DL
open PySem PySem.Spec PyProof.Rows L2
variable [Tb]
theorem stepD_succ (lo c : Int) (n : Nat) : stepD' lo c (n + 1) = .int lo :: stepD' (lo + c) c n := by
  unfold stepD'
  rw [List.range_succ_eq_map, List.map_cons, List.map_map]
  refine congr (congrArg _ (by simp)) (List.map_congr_left fun k _ => ?_)
  show PyData.int (lo + ((k + 1 : Nat) : Int) * c) = PyData.int (lo + c + (k : Int) * c)
  congr 1
  rw [Int.natCast_add, Int.add_mul]
  show lo + ((k : Int) * c + 1 * c) = _
  omega
end DL
namespace DL
open PySem PySem.Spec PyProof.Rows L2
variable [Tb]
theorem Way.len {r : Rw} {p : List Int} {n : Nat} {ss : List (Rw × List Int × Nat)} {c : _root_.Fin 26} (h : Way r p n ss c) : ss.length ≤ r.dep := by
  induction h with
  | «let» c n => simp
  | step st t ih => have := st.dep; simp only [List.length_cons]; omega
theorem stepD_down (m : Nat) : stepD' (((m + 1 : Nat) : Int) - 1) (-1) (m + 1) = .int (m : Int) :: stepD' ((m : Int) - 1) (-1) m := by
  rw [stepD_succ]
  have e : (((m + 1 : Nat) : Int) - 1) = (m : Int) := by omega
  rw [e]
  rfl
end DL
namespace DL
open PySem PySem.Spec PyProof.Rows L2
variable [Tb]
theorem step_join {rs : List Rw} {b : Int} {t : Rw} (h : Step (.join rs) [b] t) : ∃ n : Nat, b = (n : Int) ∧ rs[n]? = some t := by
  generalize e : [b] = key at h
  cases h with
  | join k h => exact ⟨k, (List.cons.inj e).1, h⟩
theorem tell_joinT {rs : List Rw} {b : Int} (h : tellB (.join rs) [b] = true) : 0 ≤ b ∧ b < (rs.length : Int) := by
  by_cases z : b < 0
  · simp only [tellB, if_pos z] at h; cases h
  · simp only [tellB, if_neg z] at h; exact ⟨by omega, of_decide_eq_true h⟩
theorem tell_joinF {rs : List Rw} {b : Int} (h : tellB (.join rs) [b] = false) (h0 : 0 ≤ b) : ¬ b < (rs.length : Int) := by
  simp only [tellB, if_neg (show ¬ b < 0 by omega)] at h; exact of_decide_eq_false h
theorem tell_rlT {r : Rw} {b : Int} (h : tellB r [b] = true) : 0 ≤ b := by
  by_cases z : b < 0
  · simp only [tellB, if_pos z] at h; cases h
  · omega
theorem tell_rF {r : Rw} {b : Int} (h : tellB (.right r) [b] = false) : ¬ 0 ≤ b := fun z => by
  simp only [tellB, if_neg (show ¬ b < 0 by omega)] at h; cases h
theorem tell_lF {r : Rw} {b : Int} (h : tellB (.left r) [b] = false) : ¬ 0 ≤ b := fun z => by
  simp only [tellB, if_neg (show ¬ b < 0 by omega)] at h; cases h
end DL
namespace DL
open PySem PySem.Spec PyProof.Rows L2
variable [Tb]
theorem pl_intsB {p : List Int} (h : Bd 128 p) : pl (intsD p) = true ∧ (intsD p).depth ≤ 1 ∧ wt (intsD p) = 6 * p.length + 3 := by
  have key : ∀ p : List Int, Bd 128 p → plL (p.map PyData.int) = true ∧ wtL (p.map PyData.int) = 6 * p.length := by
    intro p
    induction p with
    | nil => intro _; exact ⟨rfl, rfl⟩
    | cons a p ih =>
      intro h
      have t := ih fun x m => h x (List.mem_cons_of_mem _ m)
      have ha := h a List.mem_cons_self
      simp only [List.map_cons, plL, wtL, pl, wt, t.1, t.2, List.length_cons, Bool.and_true]
      exact ⟨decide_eq_true (by omega), by omega⟩
  have k := key p h
  unfold intsD
  simp only [pl, wt, PyData.depth, k.1, k.2, (ints_lay p).2]
  exact ⟨trivial, by omega, trivial⟩
theorem pl_optB {o : Option (List Int)} (h : ∀ p, o = some p → Bd 128 p ∧ p.length ≤ 100) : pl (optD o) = true ∧ (optD o).depth ≤ 1 ∧ wt (optD o) ≤ 700 := by
  cases o with
  | none => exact ⟨rfl, by simp [optD, PyData.depth], by simp [optD, wt]⟩
  | some p =>
    have hp := h p rfl
    have := pl_intsB hp.1
    show pl (intsD p) = true ∧ _ ∧ _
    exact ⟨this.1, this.2.1, by show wt (intsD p) ≤ 700; omega⟩
theorem good_optsL {os : List (Option (List Int))} (h : ∀ o ∈ os, ∀ p, o = some p → Bd 128 p ∧ p.length ≤ 100) (hl : os.length ≤ 1000) : Good (.list (os.map optD)) := by
  have key : ∀ os : List (Option (List Int)), (∀ o ∈ os, ∀ p, o = some p → Bd 128 p ∧ p.length ≤ 100) → plL (os.map optD) = true ∧ PyData.depthAll (os.map optD) ≤ 1 ∧ wtL (os.map optD) ≤ 702 * os.length := by
    intro os
    induction os with
    | nil => intro _; simp [plL, PyData.depthAll, wtL]
    | cons o os ih =>
      intro h
      have a := pl_optB (h o List.mem_cons_self)
      have b := ih fun x m => h x (List.mem_cons_of_mem _ m)
      simp only [List.map_cons, plL, PyData.depthAll, wtL, List.length_cons, a.1, b.1, Bool.and_self]
      exact ⟨trivial, by omega, by omega⟩
  have k := key os h
  refine good_pl ?_ ?_ ?_
  · simp only [pl]; exact k.1
  · simp only [PyData.depth]; omega
  · simp only [wt]; omega
theorem good_optsB {o1 o2 : Option (List Int)} (h1 : ∀ p, o1 = some p → Bd 128 p ∧ p.length ≤ 100) (h2 : ∀ p, o2 = some p → Bd 128 p ∧ p.length ≤ 100) : Good (.list [optD o1, optD o2]) :=
  good_optsL (os := [o1, o2]) (fun o m => by
    rcases List.mem_cons.mp m with rfl | m
    · exact h1
    · rw [List.mem_singleton.mp m]; exact h2) (by simp)
theorem nbP_some {s : Bool} {ss : List (Rw × List Int × Nat)} {q : List Int} (h : nbP s ss = some q) : nbF s ss = some (some q) := by
  unfold nbP at h
  cases e : nbF s ss with
  | none => rw [e] at h; cases h
  | some o => rw [e] at h; exact congrArg some h
theorem nbP_of {s : Bool} {ss : List (Rw × List Int × Nat)} {q : List Int} (h : nbF s ss = some (some q)) : nbP s ss = some q := by unfold nbP; rw [h]; rfl
theorem nbP_end (s : Bool) {r : Rw} {p : List Int} {n : Nat} {ss : List (Rw × List Int × Nat)} {c : _root_.Fin 26} (w : Way r p n ss c) (h : r.ep (!s) = some p) : nbP s ss = none := by unfold nbP; rw [(nbF_none s w).mpr h]; rfl
theorem al_ads {r : Rw} {ds out : List PyData} (h : Al (fun _ e => ∃ p, e = intsD p ∧ AdS r p ∧ Sm p) ds out) : ∃ ps : List (List Int), out = ps.map intsD ∧ (∀ p ∈ ps, AdS r p ∧ Sm p) ∧ ps.length = ds.length := by
  induction h with
  | nil => exact ⟨[], rfl, fun p m => (by cases m), rfl⟩
  | cons h t ih =>
    obtain ⟨p, rfl, h1, h2⟩ := h
    obtain ⟨ps, rfl, h3, h4⟩ := ih
    refine ⟨p :: ps, rfl, fun x m => ?_, by simp [h4]⟩
    rcases List.mem_cons.mp m with rfl | m
    · exact ⟨h1, h2⟩
    · exact h3 x m
theorem isNon_opt (o : Option (List Int)) : isNon (optD o) = !o.isSome := by cases o <;> rfl
theorem tst_no {W : WB} {sd : SD} {Q : Bool → Prop} (h : ∀ Q' : Bool → Prop, Q' false → W sd Q') (q : Q false) : W sd Q := h Q q
end DL

set_option Elab.async false
set_option linter.all false
set_option maxRecDepth 100000
set_option maxHeartbeats 400000
/-! sides with greater numbers; where two addresses part, and what is between -/
namespace DL
open PySem PySem.Spec PyProof.Rows L2
variable [Tb]
abbrev SmB (p : List Int) : Prop := Bd 128 p
theorem SmB.of_app {p q : List Int} (h : SmB (p ++ q)) : SmB p ∧ SmB q := ⟨fun x m => h x (List.mem_append_left _ m), fun x m => h x (List.mem_append_right _ m)⟩
theorem SmB.of {p : List Int} (h : Sm p) : SmB p := fun x m => ⟨(h x m).1, by have := (h x m).2; omega⟩
theorem beyond_factsB (s : Bool) {r t : Rw} {key : List Int} (st : Step r key t) (h : SmB key) : Rw.depL (beyond s r key) ≤ r.dep ∧ Rw.nodesL (beyond s r key) ≤ 128 * r.nodes := by
  cases st with
  | @join rs _ k hk =>
    have e : ((k : Int)).toNat = k := Int.toNat_natCast k
    have t1 := nodesL_take rs k
    have t2 := nodesL_take rs (k + 1)
    cases s
    · simp only [beyond, e, Bool.false_eq_true, if_false, Rw.dep, Rw.nodes]
      exact ⟨by have := Rw.depL_le (n := Rw.depL rs) (rs := rs.take k) fun x m => Rw.dep_mem (List.mem_of_mem_take m); omega, by omega⟩
    · simp only [beyond, e, if_true, Rw.dep, Rw.nodes]
      exact ⟨by have := Rw.depL_le (n := Rw.depL rs) (rs := rs.drop (k + 1)) fun x m => Rw.dep_mem (List.mem_of_mem_drop m); omega, by omega⟩
  | right i =>
    have hi := h _ List.mem_cons_self
    have e : ((i : Int)).toNat = i := Int.toNat_natCast i
    cases s
    · simp only [beyond, e, Bool.false_eq_true, if_false, Rw.dep, Rw.nodes, repl_nodesL]
      refine ⟨by have := Rw.depL_le (n := t.dep) (rs := List.replicate i t) fun x m => by rw [List.eq_of_mem_replicate m]; exact Nat.le_refl _
                 omega, ?_⟩
      have := Nat.mul_le_mul_right t.nodes (show i ≤ 128 by omega)
      omega
    · simp only [beyond, if_true, Rw.dep, Rw.nodes, Rw.depL, Rw.nodesL]
      omega
  | left i =>
    have hi := h _ List.mem_cons_self
    have e : ((i : Int)).toNat = i := Int.toNat_natCast i
    cases s
    · simp only [beyond, Bool.false_eq_true, if_false, Rw.dep, Rw.nodes, Rw.depL, Rw.nodesL]
      omega
    · simp only [beyond, e, if_true, Rw.dep, Rw.nodes, repl_nodesL]
      refine ⟨by have := Rw.depL_le (n := t.dep) (rs := List.replicate i t) fun x m => by rw [List.eq_of_mem_replicate m]; exact Nat.le_refl _
                 omega, ?_⟩
      have := Nat.mul_le_mul_right t.nodes (show i ≤ 128 by omega)
      omega
  | mix k n hk =>
    simp only [beyond, Rw.dep, Rw.nodes, Rw.depL, Rw.nodesL]
    omega
theorem side_factsB (s : Bool) {r : Rw} {p : List Int} {n : Nat} {ss : List (Rw × List Int × Nat)} {c : _root_.Fin 26} (w : Way r p n ss c) (M : Nat) :
    SmB p → 128 * r.nodes + 1 ≤ M → ∀ t, sideF s ss = some t → t.dep ≤ r.dep + ss.length ∧ t.nodes ≤ ss.length * M := by
  induction w with
  | «let» c n => intro _ _ t h; cases h
  | @step r u key0 p n ss c st w ih =>
    intro hs hN t h
    obtain ⟨h1, h2⟩ := hs.of_app
    have hn := st.nodes
    have hd := st.dep
    have b := beyond_factsB s st h1
    have i := ih h2 (by omega)
    simp only [sideF] at h
    have f := laidR_facts _ h
    have key : Rw.depL (sideF s ss).toList ≤ u.dep + ss.length ∧ Rw.nodesL (sideF s ss).toList ≤ ss.length * M := by
      rw [toList_dep, toList_nodes]
      cases e : sideF s ss with
      | none => simp
      | some v => exact i v e
    rw [List.length_cons, Nat.add_mul, Nat.one_mul]
    generalize ss.length * M = Z at key
    cases s
    · simp only [Bool.false_eq_true, if_false, Rw.depL_app, Rw.nodesL_app] at f
      omega
    · simp only [if_true, Rw.depL_app, Rw.nodesL_app] at f
      omega
/-- where two addresses part, with what is there -/
inductive PX : Rw → List Int → List Int → Rw → List Int → List Int → Rw → Rw → List Int → List Int → Prop
  | here {r s s' : Rw} {k k' p2 q2 : List Int} (h : Step r k s) (h' : Step r k' s') (ne : k ≠ k') : PX r (k ++ p2) (k' ++ q2) r k k' s s' p2 q2
  | deep {r t : Rw} {key p q : List Int} {r' : Rw} {k k' : List Int} {s s' : Rw} {p2 q2 : List Int} (h : Step r key t) (x : PX t p q r' k k' s s' p2 q2) : PX r (key ++ p) (key ++ q) r' k k' s s' p2 q2
section
variable {r : Rw} {p q : List Int} {r' : Rw} {k k' : List Int} {s s' : Rw} {p2 q2 : List Int}
theorem PX.of {r : Rw} {p : List Int} (h : Ad r p) : ∀ {q : List Int}, Ad r q → p ≠ q → ∃ r' k k' s s' p2 q2, PX r p q r' k k' s s' p2 q2 := by
  induction h with
  | «let» c => intro q h n; cases h with
    | «let» => exact absurd rfl n
    | step h t => cases h
  | @step r s key p st t ih =>
    intro q h n
    cases h with
    | «let» c => cases st
    | @step _ s2 key2 p2 st2 t2 =>
      by_cases e : key = key2
      · subst e
        obtain rfl := st.det st2
        obtain ⟨r', k, k', s, s', a, b, x⟩ := ih t2 (fun z => n (by rw [z]))
        exact ⟨r', k, k', s, s', a, b, .deep st x⟩
      · exact ⟨_, _, _, _, _, _, _, .here st st2 e⟩
theorem PX.swap (x : PX r p q r' k k' s s' p2 q2) : PX r q p r' k' k s' s q2 p2 := by
  induction x with
  | here h h' ne => exact .here h' h fun z => ne z.symm
  | deep h x ih => exact .deep h ih
theorem PX.prt (x : PX r p q r' k k' s s' p2 q2) : ∀ n : Nat, ∃ pre : List Int, p = pre ++ (k ++ p2) ∧ q = pre ++ (k' ++ q2) ∧ Prt r p q n (some (r', k, k', n + pre.length)) := by
  induction x with
  | here h h' ne => exact fun n => ⟨[], rfl, rfl, .diff h h' ne⟩
  | @deep r t key p q r' k k' s s' p2 q2 h x ih =>
    intro n
    obtain ⟨pre, e1, e2, t⟩ := ih (n + key.length)
    refine ⟨key ++ pre, by rw [e1, List.append_assoc], by rw [e2, List.append_assoc], ?_⟩
    have := Prt.same h t
    rw [List.length_append, ← Nat.add_assoc]
    exact this
theorem PX.facts (x : PX r p q r' k k' s s' p2 q2) : Step r' k s ∧ Step r' k' s' ∧ k ≠ k' ∧ r'.nodes ≤ r.nodes ∧ r'.dep ≤ r.dep ∧ (r.wf = true → r'.wf = true) ∧ (AdS r p → skey r' k = true ∧ AdS s p2) ∧ (AdS r q → skey r' k' = true ∧ AdS s' q2) := by
  induction x with
  | here h h' ne => exact ⟨h, h', ne, Nat.le_refl _, Nat.le_refl _, id, fun a => a.tail h, fun a => a.tail h'⟩
  | deep h x ih =>
    obtain ⟨a1, a2, a3, a4, a5, a6, a7, a8⟩ := ih
    have := h.nodes
    have := h.dep
    exact ⟨a1, a2, a3, by omega, by omega, fun w => a6 (h.wf w), fun a => a7 (a.tail h).2, fun a => a8 (a.tail h).2⟩
/-- the next place is the later one exactly if nothing is between -/
theorem PX.next (x : PX r p q r' k k' s s' p2 q2) : ∀ {n : Nat} {ss : List (Rw × List Int × Nat)} {c : _root_.Fin 26}, Way r p n ss c →
    (nbP false ss = some q ↔ (r'.isM = false ∧ (∃ a : Nat, k = [(a : Int)] ∧ k' = [bes false r' (a : Int)]) ∧ s.ep true = some p2 ∧ s'.ep false = some q2)) := by
  induction x with
  | @here r s s' k k' p2 q2 h h' ne =>
    intro n ss c w
    rcases Way.inv w with ⟨_, e, rfl⟩ | ⟨key, pp, t, ss', e, rfl, st, w'⟩
    · cases h
    obtain ⟨rfl, rfl⟩ := List.append_inj e (by rw [h.len, st.len])
    obtain rfl := h.det st
    have nn := nbF_none false w'
    rcases hb : nbF false ss' with _ | _ | q'
    · have hp : s.ep true = some p2 := nn.mp hb
      by_cases hm : r.isM = true
      · obtain ⟨k0, rest, e⟩ : ∃ k0 rest, k = k0 :: rest := by cases h <;> exact ⟨_, _, rfl⟩
        subst e
        have e1 : nbP false ((r, k0 :: rest, n) :: ss') = none := by
          simp only [nbP, nbF, hb, combF, stepF, hm, if_true]
          rfl
        rw [e1]
        constructor
        · intro z; cases z
        · rintro ⟨z, _⟩; rw [hm] at z; cases z
      · have hm : r.isM = false := by simpa using hm
        obtain ⟨a, rfl⟩ := step_one h hm
        obtain ⟨b, rfl⟩ := step_one h' hm
        have e1 : nbP false ((r, [(a : Int)], n) :: ss') = if tellB r [bes false r (a : Int)] = true then ((partR r (bes false r (a : Int))).ep false).map (bes false r (a : Int) :: ·) else none := by
          simp only [nbP, nbF, hb, combF, stepF, hm, Bool.false_eq_true, if_false]
          split <;> rfl
        rw [e1]
        by_cases ht : tellB r [bes false r (a : Int)] = true
        · rw [if_pos ht]
          have st' := tell_step h hm ht
          constructor
          · intro z
            obtain ⟨e, he, z⟩ := Option.map_eq_some_iff.mp z
            have z : bes false r (a : Int) :: e = (b : Int) :: q2 := z
            obtain ⟨z1, rfl⟩ := List.cons.inj z
            rw [z1] at st' he
            obtain rfl := st'.det h'
            rw [part_of h' hm] at he
            exact ⟨hm, ⟨a, rfl, by rw [z1]⟩, hp, he⟩
          · rintro ⟨_, ⟨a', e1, e2⟩, _, he⟩
            have e1 := (List.cons.inj e1).1
            rw [← e1] at e2
            have e2 := (List.cons.inj e2).1
            rw [← e2, part_of h' hm, he]
            rfl
        · rw [if_neg ht]
          constructor
          · intro z; cases z
          · rintro ⟨_, ⟨a', e1, e2⟩, _, _⟩
            have e1 := (List.cons.inj e1).1
            rw [← e1] at e2
            have e2 := (List.cons.inj e2).1
            have := tell_of h' hm
            rw [e2] at this
            exact absurd this ht
    · have e1 : nbP false ((r, k, n) :: ss') = none := by
        simp only [nbP, nbF, hb, combF]
        rfl
      rw [e1]
      constructor
      · intro z; cases z
      · rintro ⟨_, _, z, _⟩
        rw [nn.mpr z] at hb
        cases hb
    · have e1 : nbP false ((r, k, n) :: ss') = some (k ++ q') := by
        simp only [nbP, nbF, hb, combF]
        rfl
      rw [e1]
      constructor
      · intro z
        exact absurd (List.append_inj (Option.some.inj z) (by rw [h.len, h'.len])).1 ne
      · rintro ⟨_, _, z, _⟩
        rw [nn.mpr z] at hb
        cases hb
  | @deep r t key p q r' k k' s s' p2 q2 h x ih =>
    intro n ss c w
    rcases Way.inv w with ⟨_, e, rfl⟩ | ⟨key', pp, t', ss', e, rfl, st, w'⟩
    · cases h
    obtain ⟨rfl, rfl⟩ := List.append_inj e (by rw [h.len, st.len])
    obtain rfl := h.det st
    rw [← ih w']
    rcases hb : nbF false ss' with _ | _ | q'
    · have e2 : nbP false ss' = none := by rw [nbP, hb]; rfl
      rw [e2]
      constructor
      · intro z
        exfalso
        by_cases hm : r.isM = true
        · obtain ⟨k0, rest, e⟩ : ∃ k0 rest, key = k0 :: rest := by cases h <;> exact ⟨_, _, rfl⟩
          subst e
          have e1 : nbP false ((r, k0 :: rest, n) :: ss') = none := by
            simp only [nbP, nbF, hb, combF, stepF, hm, if_true]
            rfl
          rw [e1] at z
          cases z
        · have hm : r.isM = false := by simpa using hm
          obtain ⟨a, rfl⟩ := step_one h hm
          have e1 : nbP false ((r, [(a : Int)], n) :: ss') = if tellB r [bes false r (a : Int)] = true then ((partR r (bes false r (a : Int))).ep false).map (bes false r (a : Int) :: ·) else none := by
            simp only [nbP, nbF, hb, combF, stepF, hm, Bool.false_eq_true, if_false]
            split <;> rfl
          rw [e1] at z
          split at z
          · obtain ⟨e, he, z⟩ := Option.map_eq_some_iff.mp z
            have z := (List.cons.inj z).1
            unfold bes at z
            split at z <;> omega
          · cases z
      · intro z; cases z
    · have e2 : nbP false ss' = none := by rw [nbP, hb]; rfl
      have e1 : nbP false ((r, key, n) :: ss') = none := by
        simp only [nbP, nbF, hb, combF]
        rfl
      rw [e1, e2]
      constructor <;> (intro z; cases z)
    · have e2 : nbP false ss' = some q' := by rw [nbP, hb]; rfl
      have e1 : nbP false ((r, key, n) :: ss') = some (key ++ q') := by
        simp only [nbP, nbF, hb, combF]
        rfl
      rw [e1, e2]
      constructor
      · intro z; rw [List.append_cancel_left (Option.some.inj z)]
      · intro z; rw [Option.some.inj z]
end
/-! ### what is between two parts or copies -/
def absI (i : Int) : Int := if i < 0 then -i else i
def midR : Rw → List Int → List Int → List Rw
  | .join rs, a :: _, b :: _ => cutD rs (some (a + 1)) (some b)
  | .right r, a :: _, b :: _ => List.replicate (absI (b - a) - 1).toNat r
  | .left r, a :: _, b :: _ => List.replicate (absI (b - a) - 1).toNat r
  | r, _, _ => [r]
theorem cutD_sub {α : Type} (xs : List α) (lo hi : Option Int) : ∀ x ∈ cutD xs lo hi, x ∈ xs := fun x m => List.mem_of_mem_drop (List.mem_of_mem_take m)
theorem nodesL_drop (rs : List Rw) (n : Nat) : Rw.nodesL (rs.drop n) ≤ Rw.nodesL rs := by have := nodesL_take rs n; omega
theorem nodesL_tak (rs : List Rw) (n : Nat) : Rw.nodesL (rs.take n) ≤ Rw.nodesL rs := by have := nodesL_take rs n; omega
theorem mid_facts {r s s' : Rw} {k k' : List Int} (st : Step r k s) (st' : Step r k' s') (h : SmB k) (h' : SmB k') : Rw.depL (midR r k k') ≤ r.dep ∧ Rw.nodesL (midR r k k') ≤ 128 * r.nodes := by
  cases st with
  | @join rs _ a ha =>
    cases st' with
    | join b hb =>
      simp only [midR, Rw.dep, Rw.nodes]
      refine ⟨by have := Rw.depL_le (n := Rw.depL rs) (rs := cutD rs (some ((a : Int) + 1)) (some (b : Int))) fun x m => Rw.dep_mem (cutD_sub _ _ _ x m); omega, ?_⟩
      have e : Rw.nodesL (cutD rs (some ((a : Int) + 1)) (some (b : Int))) ≤ Rw.nodesL rs := Nat.le_trans (nodesL_tak _ _) (nodesL_drop _ _)
      omega
  | right a =>
    cases st' with
    | right b =>
      have h1 := h _ List.mem_cons_self
      have h2 := h' _ List.mem_cons_self
      have e : (absI ((b : Int) - (a : Int)) - 1).toNat ≤ 128 := by unfold absI; split <;> omega
      simp only [midR, Rw.dep, Rw.nodes, repl_nodesL]
      refine ⟨by have := Rw.depL_le (n := s.dep) (rs := List.replicate (absI ((b : Int) - (a : Int)) - 1).toNat s) fun x m => by rw [List.eq_of_mem_replicate m]; exact Nat.le_refl _
                 omega, ?_⟩
      have := Nat.mul_le_mul_right s.nodes e
      omega
  | left a =>
    cases st' with
    | left b =>
      have h1 := h _ List.mem_cons_self
      have h2 := h' _ List.mem_cons_self
      have e : (absI ((b : Int) - (a : Int)) - 1).toNat ≤ 128 := by unfold absI; split <;> omega
      simp only [midR, Rw.dep, Rw.nodes, repl_nodesL]
      refine ⟨by have := Rw.depL_le (n := s.dep) (rs := List.replicate (absI ((b : Int) - (a : Int)) - 1).toNat s) fun x m => by rw [List.eq_of_mem_replicate m]; exact Nat.le_refl _
                 omega, ?_⟩
      have := Nat.mul_le_mul_right s.nodes e
      omega
  | mix a n ha =>
    cases st' with
    | mix b m hb =>
      simp only [midR, Rw.dep, Rw.nodes, Rw.depL, Rw.nodesL]
      omega
theorem cut_nil {α : Type} (xs : List α) (a b : Nat) (h : a < b) (hb : b < xs.length) : cutD xs (some ((a : Int) + 1)) (some (b : Int)) = [] ↔ b = a + 1 := by
  unfold cutD
  have e1 : HT.sIx xs.length 0 (some ((a : Int) + 1)) = a + 1 := by
    show (if ((a : Int) + 1) < 0 then (((a : Int) + 1) + (xs.length : Int)).toNat else min ((a : Int) + 1).toNat xs.length) = _
    rw [if_neg (by omega)]; omega
  have e2 : HT.sIx xs.length xs.length (some (b : Int)) = b := by
    show (if (b : Int) < 0 then ((b : Int) + (xs.length : Int)).toNat else min (b : Int).toNat xs.length) = _
    rw [if_neg (by omega)]; omega
  rw [e1, e2, List.take_eq_nil_iff, List.drop_eq_nil_iff]
  omega
/-- nothing between: the next part, or copy -/
theorem mid_nil {r s s' : Rw} {k k' : List Int} (st : Step r k s) (st' : Step r k' s') (hk : keyB r k k' = true) : midR r k k' = [] ↔ (r.isM = false ∧ ∃ a : Nat, k = [(a : Int)] ∧ k' = [bes false r (a : Int)]) := by
  cases st with
  | @join rs _ a ha =>
    cases st' with
    | join b hb =>
      have hb2 := (List.getElem?_eq_some_iff.mp hb).1
      have hab : a < b := by
        have : decide ((a : Int) < (b : Int)) = true := hk
        have := of_decide_eq_true this
        omega
      simp only [midR]
      rw [cut_nil rs a b hab hb2]
      constructor
      · rintro rfl; exact ⟨rfl, a, rfl, rfl⟩
      · rintro ⟨_, a', e1, e2⟩
        have e1 := (List.cons.inj e1).1
        have e2 : (b : Int) = (a' : Int) + 1 := (List.cons.inj e2).1
        omega
  | right a =>
    cases st' with
    | right b =>
      have hab : a < b := by
        have : decide ((a : Int) < (b : Int)) = true := hk
        have := of_decide_eq_true this
        omega
      simp only [midR, List.replicate_eq_nil_iff]
      have e : (absI ((b : Int) - (a : Int)) - 1).toNat = b - a - 1 := by unfold absI; split <;> omega
      rw [e]
      constructor
      · intro z; exact ⟨rfl, a, rfl, by rw [show (b : Int) = (a : Int) + 1 by omega]; rfl⟩
      · rintro ⟨_, a', e1, e2⟩
        have e1 := (List.cons.inj e1).1
        have e2 : (b : Int) = (a' : Int) + 1 := (List.cons.inj e2).1
        omega
  | left a =>
    cases st' with
    | left b =>
      have hab : b < a := by
        have : decide ((a : Int) > (b : Int)) = true := hk
        have := of_decide_eq_true this
        omega
      simp only [midR, List.replicate_eq_nil_iff]
      have e : (absI ((b : Int) - (a : Int)) - 1).toNat = a - b - 1 := by unfold absI; split <;> omega
      rw [e]
      constructor
      · intro z; exact ⟨rfl, a, rfl, by rw [show (b : Int) = (a : Int) - 1 by omega]; rfl⟩
      · rintro ⟨_, a', e1, e2⟩
        have e1 := (List.cons.inj e1).1
        have e2 : (b : Int) = (a' : Int) - 1 := (List.cons.inj e2).1
        omega
  | mix a n ha =>
    cases st' with
    | mix b m hb =>
      simp only [midR]
      constructor
      · intro z; cases z
      · rintro ⟨z, _⟩; cases z
/-- of two parts or copies one is ahead -/
theorem mix_tot {a b : Int} {m n : Nat} (ha : a % 2 = 1) (hb : b % 2 = 1) (h1 : ¬ a * 2 ^ n < b * 2 ^ m) (h2 : ¬ b * 2 ^ m < a * 2 ^ n) : a = b ∧ m = n := by
  have e : a * 2 ^ n = b * 2 ^ m := by omega
  have key : ∀ (a b : Int) (m n : Nat), a % 2 = 1 → n < m → a * 2 ^ n = b * 2 ^ m → False := by
    intro a b m n ha hl e
    obtain ⟨d, rfl⟩ : ∃ d, m = n + (d + 1) := ⟨m - n - 1, by omega⟩
    rw [Int.pow_add, Int.pow_succ, show b * (2 ^ n * (2 ^ d * 2)) = (b * 2 ^ d * 2) * 2 ^ n by rw [Int.mul_comm (2 ^ n), ← Int.mul_assoc, ← Int.mul_assoc]] at e
    have hp : (2 : Int) ^ n ≠ 0 := Int.ne_of_gt (Int.pow_pos (by omega))
    have := Int.eq_of_mul_eq_mul_right hp e
    omega
  rcases Nat.lt_trichotomy m n with h | h | h
  · exact (key b a n m hb h e.symm).elim
  · subst h
    have hp : (2 : Int) ^ m ≠ 0 := Int.ne_of_gt (Int.pow_pos (by omega))
    exact ⟨Int.eq_of_mul_eq_mul_right hp e, rfl⟩
  · exact (key a b m n ha h e).elim
theorem key_tot {r s s' : Rw} {k k' : List Int} (st : Step r k s) (st' : Step r k' s') (h : skey r k = true) (h' : skey r k' = true) (ne : k ≠ k') (hk : keyB r k k' = false) : keyB r k' k = true := by
  cases st with
  | @join rs _ a ha =>
    cases st' with
    | join b hb =>
      have z : decide ((a : Int) < (b : Int)) = false := hk
      have z := of_decide_eq_false z
      have n2 : a ≠ b := fun e => ne (by rw [e])
      show decide ((b : Int) < (a : Int)) = true
      exact decide_eq_true (by omega)
  | right a =>
    cases st' with
    | right b =>
      have z : decide ((a : Int) < (b : Int)) = false := hk
      have z := of_decide_eq_false z
      have n2 : a ≠ b := fun e => ne (by rw [e])
      show decide ((b : Int) < (a : Int)) = true
      exact decide_eq_true (by omega)
  | left a =>
    cases st' with
    | left b =>
      have z : decide ((a : Int) > (b : Int)) = false := hk
      have z := of_decide_eq_false z
      have n2 : a ≠ b := fun e => ne (by rw [e])
      show decide ((b : Int) > (a : Int)) = true
      exact decide_eq_true (by omega)
  | @mix rs _ a n ha =>
    cases st' with
    | mix b m hb =>
      simp only [skey, Bool.and_eq_true, decide_eq_true_eq] at h h'
      have z : decide ((a : Int) * 2 ^ (((m + 1 : Nat) : Int)).toNat < (b : Int) * 2 ^ (((n + 1 : Nat) : Int)).toNat) = false := hk
      have z := of_decide_eq_false z
      show decide ((b : Int) * 2 ^ (((n + 1 : Nat) : Int)).toNat < (a : Int) * 2 ^ (((m + 1 : Nat) : Int)).toNat) = true
      refine decide_eq_true ?_
      rw [Int.toNat_natCast, Int.toNat_natCast] at z ⊢
      rcases Decidable.em ((b : Int) * 2 ^ (n + 1) < (a : Int) * 2 ^ (m + 1)) with y | y
      · exact y
      · have := mix_tot (a := (a : Int)) (b := (b : Int)) (m := n + 1) (n := m + 1) (by omega) (by omega) z y
        exact absurd (by rw [this.1, show n = m by omega]) ne
/-- what is between two places -/
def btwR (r : Rw) (k k' : List Int) (A B : Option Rw) : Option Rw := laidR (A.toList ++ (midR r k k' ++ B.toList))
theorem btw_none {r : Rw} {k k' : List Int} {A B : Option Rw} : btwR r k k' A B = none ↔ A = none ∧ midR r k k' = [] ∧ B = none := by
  unfold btwR
  rw [laidR_none, List.append_eq_nil_iff, List.append_eq_nil_iff, Option.toList_eq_nil_iff, Option.toList_eq_nil_iff]
/-- .. is nothing exactly if the one is next to the other -/
theorem btw_next {r : Rw} {p q : List Int} {r' : Rw} {k k' : List Int} {s s' : Rw} {p2 q2 : List Int} (x : PX r p q r' k k' s s' p2 q2) (hk : keyB r' k k' = true) {n na nb : Nat} {ss sa sb : List (Rw × List Int × Nat)} {c ca cb : _root_.Fin 26}
    (w : Way r p n ss c) (wa : Way s p2 na sa ca) (wb : Way s' q2 nb sb cb) : btwR r' k k' (sideF true sa) (sideF false sb) = none ↔ nbP false ss = some q := by
  obtain ⟨st, st', _⟩ := x.facts
  rw [btw_none, x.next w, side_none true wa, side_none false wb, mid_nil st st' hk]
  constructor
  · rintro ⟨a, ⟨b, c⟩, d⟩; exact ⟨b, c, a, d⟩
  · rintro ⟨b, c, a, d⟩; exact ⟨a, ⟨b, c⟩, d⟩
end DL

set_option Elab.async false
set_option linter.all false
set_option maxRecDepth 100000
set_option maxHeartbeats 4000000
/-! runs that can be computed: for each way of data a function that may tell its outcome -/
namespace DL
open PySem PySem.Spec PyProof.Rows L2

/-- f tells an outcome of w: where it tells one, w holds of all that holds of it -/
def Wy {α β : Type} (w : α → (β → Prop) → Prop) (f : α → Option β) : Prop := ∀ a b, f a = some b → ∀ Q : β → Prop, Q b → w a Q
def ob {α β : Type} (o : Option α) (k : α → Option β) : Option β := match o with
  | some a => k a
  | none => none
@[simp] theorem ob_some {α β : Type} (a : α) (k : α → Option β) : ob (some a) k = k a := rfl
@[simp] theorem ob_none {α β : Type} (k : α → Option β) : ob none k = none := rfl
theorem ob_get {α β : Type} {o : Option α} {k : α → Option β} {b : β} (h : ob o k = some b) : ∃ a, o = some a ∧ k a = some b := by
  cases o with
  | none => cases h
  | some a => exact ⟨a, rfl, h⟩
/-- if a test holds, the value -/
def oif {α : Type} (c : Bool) (a : Option α) : Option α := match c with
  | true => a
  | false => none
theorem oif_get {α : Type} {c : Bool} {a : Option α} {b : α} (h : oif c a = some b) : c = true ∧ a = some b := by
  cases c with
  | true => exact ⟨rfl, h⟩
  | false => cases h
abbrev XE (β : Type) := SD → Option β
/-! ### expressions -/
def xName (i : Nat) : XE PyData := fun sd => match getS sd i with
  | .va d => some d
  | _ => none
theorem yName (i : Nat) : Wy (wName i) (xName i) := fun sd d h Q q => by
  unfold xName at h; unfold wName
  cases e : getS sd i with
  | va x => rw [e] at h; cases h; exact q
  | _ => rw [e] at h; cases h
def xNameS (i : Nat) : XE PyData := fun sd => match getS sd i with
  | .va d => some d
  | .ow ds => some (.list ds)
  | .od es => some (.dict es)
  | _ => none
theorem yNameS (i : Nat) : Wy (wNameS i) (xNameS i) := fun sd d h Q q => by
  unfold xNameS at h; unfold wNameS
  cases e : getS sd i with
  | va x => rw [e] at h; cases h; exact q
  | ow x => rw [e] at h; cases h; exact q
  | od x => rw [e] at h; cases h; exact q
  | _ => rw [e] at h; cases h
def xC (d : PyData) : XE PyData := fun _ => some d
theorem yC (d : PyData) : Wy (wC d) (xC d) := fun sd b h Q q => by cases h; exact q
def xva (f : XE PyData) : XE RV := fun sd => ob (f sd) fun d => some (.va d)
theorem yva {w : WD} {f : XE PyData} (h : Wy w f) : Wy (fun sd Q => w sd fun d => Q (RV.va d)) (xva f) := fun sd b e Q q => by
  obtain ⟨d, h1, h2⟩ := ob_get e
  cases h2
  exact h sd d h1 _ q
def xcl (f : XE RV) : XE PyData := fun sd => ob (f sd) fun r => some r.dat
theorem ycl {w : WR} {f : XE RV} (h : Wy w f) : Wy (fun sd (Q : PyData → Prop) => w sd fun r => Q r.dat) (xcl f) := fun sd b e Q q => by
  obtain ⟨d, h1, h2⟩ := ob_get e
  cases h2
  exact h sd d h1 _ q
abbrev X2 := PyData → PyData → Option RV
def Wy2 (rd : RD2) (g : X2) : Prop := ∀ d, Wy (rd d) (g d)
def x2 (g : X2) (fa fb : XE PyData) : XE RV := fun sd => ob (fa sd) fun d => ob (fb sd) fun e => g d e
theorem y2 {rd : RD2} {g : X2} {wa wb : WD} {fa fb : XE PyData} (hg : Wy2 rd g) (ha : Wy wa fa) (hb : Wy wb fb) : Wy (w2 rd wa wb) (x2 g fa fb) := fun sd b e Q q => by
  obtain ⟨d, h1, h2⟩ := ob_get e
  obtain ⟨d2, h3, h4⟩ := ob_get h2
  exact ha sd d h1 _ (hb sd d2 h3 _ (hg d d2 b h4 Q q))
def xBo (f : XE RV) : XE Bool := fun sd => ob (f sd) fun r => match r with
  | .va (.bool b) => some b
  | _ => none
theorem yBo {w : WR} {f : XE RV} (h : Wy w f) : Wy (wBo w) (xBo f) := fun sd b e Q q => by
  obtain ⟨d, h1, h2⟩ := ob_get e
  refine h sd d h1 _ ?_
  split at h2
  · cases h2; exact q
  · cases h2
def xTru (f : XE PyData) : XE Bool := fun sd => ob (f sd) truD
theorem yTru {w : WD} {f : XE PyData} (h : Wy w f) : Wy (wTru w) (xTru f) := fun sd b e Q q => by
  obtain ⟨d, h1, h2⟩ := ob_get e
  refine h sd d h1 _ ?_
  rw [h2]; exact q
def xAnd (f g : XE Bool) : XE Bool := fun sd => ob (f sd) fun c => match c with
  | true => g sd
  | false => some false
theorem yAnd {w u : WB} {f g : XE Bool} (h : Wy w f) (k : Wy u g) : Wy (wAnd w u) (xAnd f g) := fun sd b e Q q => by
  obtain ⟨d, h1, h2⟩ := ob_get e
  refine h sd d h1 _ ?_
  cases d with
  | true => exact k sd b h2 Q q
  | false => cases h2; exact q
def xOr (f g : XE Bool) : XE Bool := fun sd => ob (f sd) fun c => match c with
  | true => some true
  | false => g sd
theorem yOr {w u : WB} {f g : XE Bool} (h : Wy w f) (k : Wy u g) : Wy (wOr w u) (xOr f g) := fun sd b e Q q => by
  obtain ⟨d, h1, h2⟩ := ob_get e
  refine h sd d h1 _ ?_
  cases d with
  | false => exact k sd b h2 Q q
  | true => cases h2; exact q
def xNot (f : XE Bool) : XE Bool := fun sd => ob (f sd) fun c => some (!c)
theorem yNot {w : WB} {f : XE Bool} (h : Wy w f) : Wy (wNot w) (xNot f) := fun sd b e Q q => by
  obtain ⟨d, h1, h2⟩ := ob_get e
  cases h2
  exact h sd d h1 _ q
def xAndV (f g : XE RV) : XE RV := fun sd => ob (f sd) fun r => match r with
  | .va (.bool true) => g sd
  | .va (.bool false) => some (.va (.bool false))
  | _ => none
theorem yAndV {w u : WR} {f g : XE RV} (h : Wy w f) (k : Wy u g) : Wy (wAndV w u) (xAndV f g) := fun sd b e Q q => by
  obtain ⟨d, h1, h2⟩ := ob_get e
  refine h sd d h1 _ ?_
  split at h2
  · exact k sd b h2 Q q
  · cases h2; exact q
  · cases h2
def xOrV (f g : XE RV) : XE RV := fun sd => ob (f sd) fun r => match r with
  | .va (.bool true) => some (.va (.bool true))
  | .va (.bool false) => g sd
  | _ => none
theorem yOrV {w u : WR} {f g : XE RV} (h : Wy w f) (k : Wy u g) : Wy (wOrV w u) (xOrV f g) := fun sd b e Q q => by
  obtain ⟨d, h1, h2⟩ := ob_get e
  refine h sd d h1 _ ?_
  split at h2
  · cases h2; exact q
  · exact k sd b h2 Q q
  · cases h2
def xNotV (f : XE RV) : XE RV := fun sd => ob (f sd) fun r => match r with
  | .va (.bool c) => some (.va (.bool (!c)))
  | _ => none
theorem yNotV {w : WR} {f : XE RV} (h : Wy w f) : Wy (wNotV w) (xNotV f) := fun sd b e Q q => by
  obtain ⟨d, h1, h2⟩ := ob_get e
  refine h sd d h1 _ ?_
  split at h2
  · cases h2; exact q
  · cases h2
def xIf {α : Type} (t : XE Bool) (u v : XE α) : XE α := fun sd => ob (t sd) fun c => match c with
  | true => u sd
  | false => v sd
theorem yIf {α : Type} {t : WB} {u v : SD → (α → Prop) → Prop} {ft : XE Bool} {fu fv : XE α} (ht : Wy t ft) (hu : Wy u fu) (hv : Wy v fv) : Wy (wIf t u v) (xIf ft fu fv) := fun sd b e Q q => by
  obtain ⟨d, h1, h2⟩ := ob_get e
  refine ht sd d h1 _ ?_
  cases d with
  | true => exact hu sd b h2 Q q
  | false => exact hv sd b h2 Q q
def xIs (k : PyData → Bool) (f : XE PyData) : XE RV := fun sd => ob (f sd) fun d => some (.va (.bool (k d)))
theorem yIs {k : PyData → Bool} {w : WD} {f : XE PyData} (h : Wy w f) : Wy (wIs k w) (xIs k f) := fun sd b e Q q => by
  obtain ⟨d, h1, h2⟩ := ob_get e
  cases h2
  exact h sd d h1 _ q
def xIsN (f : XE PyData) (neg : Bool) : XE RV := fun sd => ob (f sd) fun d => some (.va (.bool (if neg then !isNon d else isNon d)))
theorem yIsN {w : WD} {f : XE PyData} {neg : Bool} (h : Wy w f) : Wy (wIsN w neg) (xIsN f neg) := fun sd b e Q q => by
  obtain ⟨d, h1, h2⟩ := ob_get e
  cases h2
  exact h sd d h1 _ q
def xNeg (f : XE PyData) : XE RV := fun sd => ob (f sd) fun d => match d with
  | .int i => some (.va (.int (-i)))
  | _ => none
theorem yNeg {w : WD} {f : XE PyData} (h : Wy w f) : Wy (wNeg w) (xNeg f) := fun sd b e Q q => by
  obtain ⟨d, h1, h2⟩ := ob_get e
  refine h sd d h1 _ ?_
  split at h2
  · cases h2; exact q
  · cases h2
def lineOk (z : Str) : Bool := Nat.ble z.length sizeLine
def gIxC (n : Nat) : PyData → Option RV
  | .list xs => ob (nthD xs n) fun v => some (.va v)
  | .tuple xs => ob (nthD xs n) fun v => some (.va v)
  | .str z => oif (lineOk z) (ob (atI z.cps.toList n) fun c => some (.va (.str ⟨#[c]⟩)))
  | _ => none
theorem zIxC (n : Nat) : Wy (ixC n) (gIxC n) := fun d b e Q q => by
  unfold gIxC at e; unfold ixC
  split at e
  · obtain ⟨v, h1, h2⟩ := ob_get e; cases h2; show (match nthD _ n with | some v => Q (.va v) | none => False); rw [h1]; exact q
  · obtain ⟨v, h1, h2⟩ := ob_get e; cases h2; show (match nthD _ n with | some v => Q (.va v) | none => False); rw [h1]; exact q
  · obtain ⟨h0, e⟩ := oif_get e
    obtain ⟨v, h1, h2⟩ := ob_get e; cases h2; refine ⟨Nat.le_of_ble_eq_true h0, ?_⟩; show (match atI _ (n : Int) with | some c => Q (.va (.str ⟨#[c]⟩)) | none => False); rw [h1]; exact q
  · cases e
def xIxC (n : Nat) (f : XE PyData) : XE RV := fun sd => ob (f sd) (gIxC n)
theorem yIxC {n : Nat} {w : WD} {f : XE PyData} (h : Wy w f) : Wy (wIxC n w) (xIxC n f) := fun sd b e Q q => by
  obtain ⟨d, h1, h2⟩ := ob_get e
  exact h sd d h1 _ (zIxC n d b h2 Q q)
def xoNone : XE (Option Int) := fun _ => some none
theorem yoNone : Wy (fun (_ : SD) (Q : Option Int → Prop) => Q none) xoNone := fun sd b e Q q => by cases e; exact q
def xPart (f : XE PyData) : XE (Option Int) := fun sd => ob (f sd) fun d => match d with
  | .int i => some (some i)
  | _ => none
theorem yPart {w : WD} {f : XE PyData} (h : Wy w f) : Wy (wPart w) (xPart f) := fun sd b e Q q => by
  obtain ⟨d, h1, h2⟩ := ob_get e
  refine h sd d h1 _ ?_
  split at h2
  · cases h2; exact q
  · cases h2
def gSl (d : PyData) (lo hi : Option Int) : Option RV := match d with
  | .list xs => some (.fr (cutD xs lo hi))
  | .tuple xs => some (.va (.tuple (cutD xs lo hi)))
  | .str z => oif (lineOk z) (some (.va (.str (cutS z lo hi))))
  | _ => none
def xSl (fa : XE PyData) (fl fh : XE (Option Int)) : XE RV := fun sd => ob (fa sd) fun d => ob (fl sd) fun l => ob (fh sd) fun h => gSl d l h
theorem ySl {wa : WD} {wl wh : WO} {fa : XE PyData} {fl fh : XE (Option Int)} (ha : Wy wa fa) (hl : Wy wl fl) (hh : Wy wh fh) :
    Wy (fun sd Q => wa sd fun d => wl sd fun l => wh sd fun h => rdSl d l h Q) (xSl fa fl fh) := fun sd b e Q q => by
  obtain ⟨d, h1, e⟩ := ob_get e
  obtain ⟨l, h2, e⟩ := ob_get e
  obtain ⟨h, h3, e⟩ := ob_get e
  refine ha sd d h1 _ (hl sd l h2 _ (hh sd h h3 _ ?_))
  unfold gSl at e
  split at e
  · cases e; exact q
  · cases e; exact q
  · obtain ⟨h0, e⟩ := oif_get e; cases e; exact ⟨Nat.le_of_ble_eq_true h0, q⟩
  · cases e
def gBack : PyData → Option RV
  | .list ds => some (.fr ds.reverse)
  | .tuple ds => some (.va (.tuple ds.reverse))
  | _ => none
def xBack (f : XE PyData) : XE RV := fun sd => ob (f sd) gBack
theorem yBack {w : WD} {f : XE PyData} (h : Wy w f) : Wy (wBack w) (xBack f) := fun sd b e Q q => by
  obtain ⟨d, h1, h2⟩ := ob_get e
  refine h sd d h1 _ ?_
  unfold gBack at h2
  split at h2
  · cases h2; exact q
  · cases h2; exact q
  · cases h2
def lenOk (ds : List PyData) : Bool := Nat.ble ds.length sizeLine
def xTup (f : XE (List PyData)) : XE RV := fun sd => ob (f sd) fun ds => oif (lenOk ds) (some (.va (.tuple ds)))
theorem yTup {w : WL} {f : XE (List PyData)} (h : Wy w f) : Wy (fun sd Q => w sd fun ds => ds.length ≤ sizeLine ∧ Q (RV.va (.tuple ds))) (xTup f) := fun sd b e Q q => by
  obtain ⟨d, h1, h2⟩ := ob_get e
  obtain ⟨h0, h2⟩ := oif_get h2
  cases h2
  exact h sd d h1 _ ⟨Nat.le_of_ble_eq_true h0, q⟩
def xLst (f : XE (List PyData)) : XE RV := fun sd => ob (f sd) fun ds => oif (lenOk ds) (some (.fr ds))
theorem yLst {w : WL} {f : XE (List PyData)} (h : Wy w f) : Wy (fun sd Q => w sd fun ds => ds.length ≤ sizeLine ∧ Q (RV.fr ds)) (xLst f) := fun sd b e Q q => by
  obtain ⟨d, h1, h2⟩ := ob_get e
  obtain ⟨h0, h2⟩ := oif_get h2
  cases h2
  exact h sd d h1 _ ⟨Nat.le_of_ble_eq_true h0, q⟩
/-! ### lists of expressions -/
def xNil : XE (List PyData) := fun _ => some []
theorem yNil : Wy (fun (_ : SD) (Q : List PyData → Prop) => Q []) xNil := fun sd b e Q q => by cases e; exact q
def xCons (f : XE PyData) (g : XE (List PyData)) : XE (List PyData) := fun sd => ob (f sd) fun d => ob (g sd) fun ds => some (d :: ds)
theorem yCons {w : WD} {ws : WL} {f : XE PyData} {g : XE (List PyData)} (h : Wy w f) (t : Wy ws g) : Wy (fun sd (Q : List PyData → Prop) => w sd fun d => ws sd fun ds => Q (d :: ds)) (xCons f g) := fun sd b e Q q => by
  obtain ⟨d, h1, e⟩ := ob_get e
  obtain ⟨ds, h2, e⟩ := ob_get e
  cases e
  exact h sd d h1 _ (t sd ds h2 _ q)
def itemsD : PyData → Option (List PyData)
  | .list ds => some ds
  | .tuple ds => some ds
  | _ => none
theorem zItems : Wy dItems itemsD := fun d b e Q q => by
  unfold itemsD at e; unfold dItems
  split at e
  · cases e; exact q
  · cases e; exact q
  · cases e
def xStar (f : XE PyData) (g : XE (List PyData)) : XE (List PyData) := fun sd => ob (f sd) fun d => ob (itemsD d) fun zs => ob (g sd) fun ds => some (zs ++ ds)
theorem yStar {w : WD} {ws : WL} {f : XE PyData} {g : XE (List PyData)} (h : Wy w f) (t : Wy ws g) : Wy (fun sd (Q : List PyData → Prop) => w sd fun d => dItems d fun zs => ws sd fun ds => Q (zs ++ ds)) (xStar f g) := fun sd b e Q q => by
  obtain ⟨d, h1, e⟩ := ob_get e
  obtain ⟨zs, h2, e⟩ := ob_get e
  obtain ⟨ds, h3, e⟩ := ob_get e
  cases e
  exact h sd d h1 _ (zItems d zs h2 _ (t sd ds h3 _ q))
def xaNil : XE (List AV) := fun _ => some []
theorem yaNil : Wy (fun (_ : SD) (Q : List AV → Prop) => Q []) xaNil := fun sd b e Q q => by cases e; exact q
def xaCons (f : XE PyData) (g : XE (List AV)) : XE (List AV) := fun sd => ob (f sd) fun d => ob (g sd) fun ds => some (.va d :: ds)
theorem yaCons {w : WD} {ws : WA} {f : XE PyData} {g : XE (List AV)} (h : Wy w f) (t : Wy ws g) : Wy (fun sd (Q : List AV → Prop) => w sd fun d => ws sd fun ds => Q (AV.va d :: ds)) (xaCons f g) := fun sd b e Q q => by
  obtain ⟨d, h1, e⟩ := ob_get e
  obtain ⟨ds, h2, e⟩ := ob_get e
  cases e
  exact h sd d h1 _ (t sd ds h2 _ q)
/-! ### calls -/
def fsX (g : List AV → Option RV) : FSp := fun as Q => match g as with
  | some r => Q r
  | none => False
theorem moX {g : List AV → Option RV} : MoF (fsX g) := fun as Q Q' k q => by
  unfold fsX at q ⊢
  cases e : g as with
  | none => rw [e] at q; exact q.elim
  | some r => rw [e] at q; exact k _ q
theorem fsX_of {g : List AV → Option RV} {as : List AV} {r : RV} {Q : RV → Prop} (h : g as = some r) (q : Q r) : fsX g as Q := by
  unfold fsX; rw [h]; exact q
theorem yfsX (g : List AV → Option RV) : Wy (fsX g) g := fun as r h Q q => fsX_of h q
def xCall (n : Nat) (g : List AV → Option RV) (fa : XE (List AV)) : XE RV := fun sd => ob (fa sd) fun as => oif (Nat.beq as.length n) (g as)
theorem yCall {n : Nat} {fs : FSp} {g : List AV → Option RV} {wa : WA} {fa : XE (List AV)} (hg : Wy fs g) (ha : Wy wa fa) : Wy (fun sd Q => wa sd fun as => as.length = n ∧ fs as Q) (xCall n g fa) := fun sd b e Q q => by
  obtain ⟨as, h1, e⟩ := ob_get e
  obtain ⟨h0, e⟩ := oif_get e
  exact ha sd as h1 _ ⟨Nat.eq_of_beq_eq_true h0, hg as b e Q q⟩
def xCallB (n : Nat) (g : List AV → Option RV) (fa : XE (List AV)) : XE RV := fun sd => ob (fa sd) fun as => oif (Nat.beq as.length n) (ob (g as) fun r => oif r.noL (some r))
theorem yCallB {n : Nat} {fs : FSp} {g : List AV → Option RV} {wa : WA} {fa : XE (List AV)} (hg : Wy fs g) (ha : Wy wa fa) : Wy (fun sd Q => wa sd fun as => as.length = n ∧ fs as fun r => r.noL = true ∧ Q r) (xCallB n g fa) := fun sd b e Q q => by
  obtain ⟨as, h1, e⟩ := ob_get e
  obtain ⟨h0, e⟩ := oif_get e
  obtain ⟨r, h2, e⟩ := ob_get e
  obtain ⟨h3, e⟩ := oif_get e
  cases e
  exact ha sd as h1 _ ⟨Nat.eq_of_beq_eq_true h0, hg as b h2 _ ⟨h3, q⟩⟩
def xBlt (g : List PyData → Option RV) (f : XE (List PyData)) : XE RV := fun sd => ob (f sd) g
theorem yBlt {rd : RDn} {g : List PyData → Option RV} {w : WL} {f : XE (List PyData)} (hg : Wy rd g) (h : Wy w f) : Wy (fun sd Q => w sd fun ds => rd ds Q) (xBlt g f) := fun sd b e Q q => by
  obtain ⟨ds, h1, e⟩ := ob_get e
  exact h sd ds h1 _ (hg ds b e Q q)
def g1 (f : PyData → Option RV) : List PyData → Option RV
  | [d] => f d
  | _ => none
theorem z1x {w : PyData → (RV → Prop) → Prop} {f : PyData → Option RV} (h : Wy w f) : Wy (rd1 w) (g1 f) := fun ds b e Q q => by
  unfold g1 at e
  split at e
  · exact h _ b e Q q
  · cases e
def gLen : PyData → Option RV
  | .list xs => some (.va (.int xs.length))
  | .tuple xs => some (.va (.int xs.length))
  | .str z => oif (lineOk z) (some (.va (.int z.length)))
  | _ => none
theorem zLen : Wy dLen gLen := fun d b e Q q => by
  unfold gLen at e
  split at e
  · cases e; exact q
  · cases e; exact q
  · obtain ⟨h0, e⟩ := oif_get e; cases e; exact ⟨Nat.le_of_ble_eq_true h0, q⟩
  · cases e
def gTuple : PyData → Option RV
  | .list xs => some (.va (.tuple xs))
  | .tuple xs => some (.va (.tuple xs))
  | _ => none
theorem zTuple : Wy dTuple gTuple := fun d b e Q q => by
  unfold gTuple at e
  split at e
  · cases e; exact q
  · cases e; exact q
  · cases e
def gList : PyData → Option RV
  | .list xs => some (.fr xs)
  | .tuple xs => some (.fr xs)
  | _ => none
theorem zList : Wy dList gList := fun d b e Q q => by
  unfold gList at e
  split at e
  · cases e; exact q
  · cases e; exact q
  · cases e
def gInt : PyData → Option RV
  | .int i => some (.va (.int i))
  | .bool b => some (.va (.int (if b then 1 else 0)))
  | _ => none
theorem zInt : Wy dInt gInt := fun d b e Q q => by
  unfold gInt at e
  split at e
  · cases e; exact q
  · cases e; exact q
  · cases e
def gAbs : PyData → Option RV
  | .int i => some (.va (.int (if i < 0 then -i else i)))
  | _ => none
theorem zAbs : Wy dAbs gAbs := fun d b e Q q => by
  unfold gAbs at e
  split at e
  · cases e; exact q
  · cases e
def intsOf : List PyData → Option (List Int)
  | [] => some []
  | .int i :: ds => ob (intsOf ds) fun is => some (i :: is)
  | _ => none
theorem intsOf_get : ∀ {ds : List PyData} {is : List Int}, intsOf ds = some is → ds = is.map PyData.int
  | [], _, h => by cases h; rfl
  | .int i :: ds, _, h => by
    obtain ⟨is, h1, h2⟩ := ob_get (show ob (intsOf ds) _ = _ from h)
    cases h2
    rw [intsOf_get h1]; rfl
  | .none :: _, _, h => by cases h
  | .bool _ :: _, _, h => by cases h
  | .str _ :: _, _, h => by cases h
  | .list _ :: _, _, h => by cases h
  | .tuple _ :: _, _, h => by cases h
  | .dict _ :: _, _, h => by cases h
@[simp] theorem intsOf_map : ∀ is : List Int, intsOf (is.map PyData.int) = some is
  | [] => rfl
  | i :: is => by show ob (intsOf (is.map PyData.int)) _ = _; rw [intsOf_map is]; rfl
def gSum : PyData → Option RV
  | .list xs => ob (intsOf xs) fun is => some (.va (.int is.sum))
  | _ => none
theorem zSum : Wy dSum gSum := fun d b e Q q => by
  unfold gSum at e
  split at e
  · obtain ⟨is, h1, h2⟩ := ob_get e; cases h2; exact ⟨is, intsOf_get h1, q⟩
  · cases e
def maxI : Int → List Int → Int
  | m, [] => m
  | m, i :: is => maxI (if m < i then i else m) is
theorem maxI_mem : ∀ (is : List Int) (m : Int), maxI m is = m ∨ maxI m is ∈ is
  | [], m => .inl rfl
  | i :: is, m => by
    unfold maxI
    rcases maxI_mem is (if m < i then i else m) with h | h
    · rw [h]; split
      · exact .inr List.mem_cons_self
      · exact .inl rfl
    · exact .inr (List.mem_cons_of_mem _ h)
theorem maxI_ge : ∀ (is : List Int) (m : Int), m ≤ maxI m is ∧ ∀ y ∈ is, y ≤ maxI m is
  | [], m => ⟨Int.le_refl _, fun y h => by cases h⟩
  | i :: is, m => by
    unfold maxI
    have ⟨h1, h2⟩ := maxI_ge is (if m < i then i else m)
    have h3 : m ≤ (if m < i then i else m) := by split <;> omega
    have h4 : i ≤ (if m < i then i else m) := by split <;> omega
    refine ⟨Int.le_trans h3 h1, fun y hy => ?_⟩
    rcases List.mem_cons.mp hy with rfl | hy
    · exact Int.le_trans h4 h1
    · exact h2 y hy
def gMax : PyData → Option RV
  | .list xs => ob (intsOf xs) fun is => match is with
    | [] => none
    | i :: is => some (.va (.int (maxI i is)))
  | _ => none
theorem zMax : Wy dMax gMax := fun d b e Q q => by
  unfold gMax at e
  split at e
  · obtain ⟨is, h1, h2⟩ := ob_get e
    cases is with
    | nil => cases h2
    | cons i is =>
      cases h2
      refine ⟨i :: is, intsOf_get h1, Nat.succ_pos _, fun m hm hall => ?_⟩
      have h3 := maxI_ge is i
      have h4 : maxI i is ∈ i :: is := by
        rcases maxI_mem is i with h | h
        · rw [h]; exact List.mem_cons_self
        · exact List.mem_cons_of_mem _ h
      have h5 := hall _ h4
      have h6 : m ≤ maxI i is := by
        rcases List.mem_cons.mp hm with rfl | hm
        · exact h3.1
        · exact h3.2 _ hm
      have : m = maxI i is := by omega
      rw [this]; exact q
  · cases e
def okShowB (d : PyData) : Bool := (d.showable && SeqAt.shaped d) && lineOk d.shown
theorem okShow_of {d : PyData} (h : okShowB d = true) : okShow d := by
  unfold okShowB at h
  rw [Bool.and_eq_true, Bool.and_eq_true] at h
  exact ⟨h.1, Nat.le_of_ble_eq_true h.2⟩
def gRepr (d : PyData) : Option RV := oif (okShowB d) (some (.va (.str d.shown)))
theorem zRepr : Wy dRepr gRepr := fun d b e Q q => by
  obtain ⟨h0, e⟩ := oif_get e
  cases e
  exact ⟨okShow_of h0, q⟩
/-! ### operators -/
def gI (c : Int → Int → Bool) (g : Int → Int → PyData) : X2 := fun d e => match d, e with
  | .int i, .int j => oif (c i j) (some (.va (g i j)))
  | _, _ => none
theorem zI {C : Int → Int → Prop} {c : Int → Int → Bool} {g : Int → Int → PyData} (hc : ∀ i j, c i j = true → C i j) : Wy2 (rdInt C g) (gI c g) := fun d e b h Q q => by
  unfold gI at h
  split at h
  · obtain ⟨h0, e⟩ := oif_get h
    cases e
    exact ⟨hc _ _ h0, q⟩
  · cases h
def tt2 : Int → Int → Bool := fun _ _ => true
def gSub : X2 := gI tt2 fun i j => .int (i - j)
theorem zSub : Wy2 (rdInt (fun _ _ => True) fun i j => .int (i - j)) gSub := zI fun _ _ _ => trivial
def gMod : X2 := gI (fun _ j => decide (0 < j)) fun i j => .int (i % j)
theorem zMod : Wy2 (rdInt (fun _ j => 0 < j) fun i j => .int (i % j)) gMod := zI fun _ _ h => of_decide_eq_true h
def divOk (_ j : Int) : Bool := decide (0 < j) && Nat.ble j.natAbs 1000000000000000000000
theorem divOk_of {i j : Int} (h : divOk i j = true) : CDivW i j := by
  unfold divOk at h
  rw [Bool.and_eq_true] at h
  have h1 := of_decide_eq_true h.1
  have h2 := Nat.le_of_ble_eq_true h.2
  refine ⟨h1, ?_⟩
  have : j.natAbs < 2 ^ 9000 := Nat.lt_of_le_of_lt h2 (by decide +kernel)
  by_cases hz : j.natAbs = 0
  · rw [hz]; decide
  · exact (Nat.log2_lt hz).mpr this
def gFdiv : X2 := gI divOk fun i j => .int (i / j)
theorem zFdiv : Wy2 (rdInt CDivW fun i j => .int (i / j)) gFdiv := zI fun _ _ h => divOk_of h
def gLt : X2 := gI tt2 fun i j => .bool (decide (i < j))
theorem zLt : Wy2 (rdInt (fun _ _ => True) fun i j => .bool (decide (i < j))) gLt := zI fun _ _ _ => trivial
def gLe : X2 := gI tt2 fun i j => .bool (decide (i ≤ j))
theorem zLe : Wy2 (rdInt (fun _ _ => True) fun i j => .bool (decide (i ≤ j))) gLe := zI fun _ _ _ => trivial
def gGt : X2 := gI tt2 fun i j => .bool (decide (j < i))
theorem zGt : Wy2 (rdInt (fun _ _ => True) fun i j => .bool (decide (j < i))) gGt := zI fun _ _ _ => trivial
def gGe : X2 := gI tt2 fun i j => .bool (decide (j ≤ i))
theorem zGe : Wy2 (rdInt (fun _ _ => True) fun i j => .bool (decide (j ≤ i))) gGe := zI fun _ _ _ => trivial
def shlOk (i j : Int) : Bool := (decide (0 ≤ j) && Nat.ble j.natAbs 1000000) && Nat.ble (Builtin.Int.intBits i) 1000000
def gShl : X2 := gI shlOk fun i j => .int (i * 2 ^ j.toNat)
theorem zShl : Wy2 (rdInt CShl fun i j => .int (i * 2 ^ j.toNat)) gShl := zI fun i j h => by
  unfold shlOk at h
  rw [Bool.and_eq_true, Bool.and_eq_true] at h
  have h1 := of_decide_eq_true h.1.1
  have h2 := Nat.le_of_ble_eq_true h.1.2
  have h3 := Nat.le_of_ble_eq_true h.2
  refine ⟨h1, ?_⟩
  have : (2 : Int) ^ 27 = 134217728 := by decide
  omega
def gAdd : X2 := fun d e => match d, e with
  | .int i, .int j => some (.va (.int (i + j)))
  | .str x, .str y => oif (Nat.ble (x.length + y.length) sizeLine) (some (.va (.str (x ++ y))))
  | .tuple xs, .tuple ys => oif (Nat.ble (xs.length + ys.length) sizeLine) (some (.va (.tuple (xs ++ ys))))
  | .list xs, .list ys => oif (Nat.ble (xs.length + ys.length) sizeLine) (some (.fr (xs ++ ys)))
  | _, _ => none
theorem zAdd : Wy2 rdAdd gAdd := fun d e b h Q q => by
  unfold gAdd at h
  split at h
  · cases h; exact q
  · obtain ⟨h0, e⟩ := oif_get h; cases e; exact ⟨Nat.le_of_ble_eq_true h0, q⟩
  · obtain ⟨h0, e⟩ := oif_get h; cases e; exact ⟨Nat.le_of_ble_eq_true h0, q⟩
  · obtain ⟨h0, e⟩ := oif_get h; cases e; exact ⟨Nat.le_of_ble_eq_true h0, q⟩
  · cases h
def mulOk (i j : Int) : Bool := Nat.ble i.natAbs 9223372036854775807 || Nat.ble j.natAbs 9223372036854775807
theorem mulOk_of {i j : Int} (h : mulOk i j = true) : CMul i j := by
  unfold mulOk at h
  rw [Bool.or_eq_true] at h
  have e : (2 : Int) ^ 64 = 18446744073709551616 := by decide
  unfold CMul
  rcases h with h | h
  · have := Nat.le_of_ble_eq_true h
    exact .inl (by omega)
  · have := Nat.le_of_ble_eq_true h
    exact .inr (by omega)
def gMul : X2 := fun d e => match d, e with
  | .int i, .int j => oif (mulOk i j) (some (.va (.int (i * j))))
  | .list xs, .int k => oif ((decide (0 ≤ k) && Nat.ble k.natAbs 1000) && Nat.ble xs.length 1000) (some (.fr (List.replicate k.toNat xs).flatten))
  | .tuple xs, .int k => oif (((decide (2 ≤ k) && Nat.ble k.natAbs 1000) && Nat.ble xs.length 1000) && !xs.isEmpty) (some (.va (.tuple (List.replicate k.toNat xs).flatten)))
  | _, _ => none
theorem zMul : Wy2 rdMul gMul := fun d e b h Q q => by
  unfold gMul at h
  split at h
  · obtain ⟨h0, e⟩ := oif_get h; cases e; exact ⟨.inl (mulOk_of h0), q⟩
  · obtain ⟨h0, e⟩ := oif_get h
    cases e
    rw [Bool.and_eq_true, Bool.and_eq_true] at h0
    have h1 := of_decide_eq_true h0.1.1
    have h2 := Nat.le_of_ble_eq_true h0.1.2
    exact ⟨⟨h1, by omega, Nat.le_of_ble_eq_true h0.2⟩, q⟩
  · obtain ⟨h0, e⟩ := oif_get h
    cases e
    rw [Bool.and_eq_true, Bool.and_eq_true, Bool.and_eq_true] at h0
    have h1 := of_decide_eq_true h0.1.1.1
    have h2 := Nat.le_of_ble_eq_true h0.1.1.2
    refine ⟨⟨h1, by omega, fun z => ?_, Nat.le_of_ble_eq_true h0.1.2⟩, q⟩
    rw [z] at h0
    exact absurd h0.2 (by decide)
  · cases h
def strEq (s t : Str) : Bool := decide (s.cps.toList = t.cps.toList)
theorem strEq_eq (s t : Str) : strEq s t = decide (s = t) := by
  unfold strEq
  by_cases h : s = t
  · rw [h]; simp
  · have : ¬ s.cps.toList = t.cps.toList := fun z => h (by
      obtain ⟨a⟩ := s; obtain ⟨b⟩ := t
      have z : a.toList = b.toList := z
      rw [Array.toList_inj] at z
      rw [z])
    rw [decide_eq_false h, decide_eq_false this]
def keyX : PyData → PyData → Bool
  | .int i, .int j => decide (i = j)
  | .str s, .str t => strEq s t
  | e, d => e.eqv d
theorem keyX_eq (e d : PyData) : keyX e d = e.eqv d := by
  cases e <;> cases d <;> first | rfl | (simp only [keyX, PyData.eqv]; rfl) | (simp only [keyX, PyData.eqv, strEq_eq]; rfl)
/-- what stands at a key, for the kernel -/
def lookX (es : List (PyData × PyData)) (d : PyData) : Option PyData := (es.find? fun p => keyX p.1 d).map (·.2)
theorem lookX_eq (es : List (PyData × PyData)) (d : PyData) : lookX es d = lookD es d := by
  unfold lookX lookD
  simp only [keyX_eq]
def gIx : X2 := fun d e => match d, e with
  | .list xs, .int i => ob (atI xs i) fun v => some (.va v)
  | .tuple xs, .int i => ob (atI xs i) fun v => some (.va v)
  | .str z, .int i => oif (lineOk z) (ob (atI z.cps.toList i) fun c => some (.va (.str ⟨#[c]⟩)))
  | .dict es, k => oif (isKey k) (ob (lookX es k) fun v => some (.va v))
  | _, _ => none
theorem zIx : Wy2 rdIx gIx := fun d e b h Q q => by
  unfold gIx at h
  split at h
  · obtain ⟨v, h1, h2⟩ := ob_get h; cases h2; show (match atI _ _ with | some v => Q (.va v) | none => False); rw [h1]; exact q
  · obtain ⟨v, h1, h2⟩ := ob_get h; cases h2; show (match atI _ _ with | some v => Q (.va v) | none => False); rw [h1]; exact q
  · obtain ⟨h0, e⟩ := oif_get h
    obtain ⟨v, h1, h2⟩ := ob_get e; cases h2; refine ⟨Nat.le_of_ble_eq_true h0, ?_⟩; show (match atI _ _ with | some c => Q (.va (.str ⟨#[c]⟩)) | none => False); rw [h1]; exact q
  · obtain ⟨h0, e⟩ := oif_get h
    obtain ⟨v, h1, h2⟩ := ob_get e; cases h2; refine ⟨h0, ?_⟩; rw [lookX_eq] at h1; show (match lookD _ _ with | some v => Q (.va v) | none => False); rw [h1]; exact q
  · cases h
def gEqB : PyData → PyData → Option Bool := fun d e => match d, e with
  | .int i, .int j => some (decide (i = j))
  | .str i, .str j => some (strEq i j)
  | .none, .none => some true
  | .bool i, .bool j => some (decide (i = j))
  | .none, .str _ => some false
  | .str _, .none => some false
  | .none, .int _ => some false
  | .int _, .none => some false
  | .int _, .str _ => some false
  | .str _, .int _ => some false
  | d, e => oif (SeqAt.shaped d && SeqAt.shaped e) (some (PyData.eqv d e))
theorem zEqB (d : PyData) : Wy (dEq d) (gEqB d) := fun e b h Q q => by
  unfold gEqB at h; unfold dEq
  split at h
  · cases h; exact q
  · cases h; rw [strEq_eq] at q; exact q
  · cases h; exact q
  · cases h; exact q
  · cases h; exact q
  · cases h; exact q
  · cases h; exact q
  · cases h; exact q
  · cases h; exact q
  · cases h; exact q
  · obtain ⟨h0, e1⟩ := oif_get h
    cases e1
    rw [Bool.and_eq_true] at h0
    first
    | exact ⟨h0, q⟩
    | (split; all_goals first | exact ⟨h0, q⟩ | (exfalso; rename_i n1 n2 n3 n4 n5 n6 n7 n8 n9 n10; first | exact n1 _ _ rfl rfl | exact n2 _ _ rfl rfl | exact n3 rfl rfl | exact n4 _ _ rfl rfl | exact n5 _ rfl rfl | exact n6 _ rfl rfl | exact n7 _ rfl rfl | exact n8 _ rfl rfl | exact n9 _ _ rfl rfl | exact n10 _ _ rfl rfl))
def gEq (neg : Bool) : X2 := fun d e => ob (gEqB d e) fun b => some (.va (.bool (if neg then !b else b)))
theorem zEq {neg : Bool} : Wy2 (rdEq2 neg) (gEq neg) := fun d e b h Q q => by
  obtain ⟨c, h1, h2⟩ := ob_get h
  cases h2
  exact zEqB d e c h1 _ q
def gIn (neg : Bool) : X2 := fun d e => match e with
  | .list ys => oif (flatD d && ys.all flatD) (some (.va (.bool (if neg then !(ys.any fun y => y.eqv d) else ys.any fun y => y.eqv d))))
  | .tuple ys => oif (flatD d && ys.all flatD) (some (.va (.bool (if neg then !(ys.any fun y => y.eqv d) else ys.any fun y => y.eqv d))))
  | .dict es => oif (isKey d) (some (.va (.bool (if neg then !(lookX es d).isSome else (lookX es d).isSome))))
  | _ => none
theorem zIn {neg : Bool} : Wy2 (rdIn neg) (gIn neg) := fun d e b h Q q => by
  unfold gIn at h
  split at h
  · obtain ⟨h0, e⟩ := oif_get h; cases e; rw [Bool.and_eq_true] at h0; exact ⟨h0, q⟩
  · obtain ⟨h0, e⟩ := oif_get h; cases e; rw [Bool.and_eq_true] at h0; exact ⟨h0, q⟩
  · obtain ⟨h0, e⟩ := oif_get h; cases e; rw [lookX_eq] at q; exact ⟨h0, q⟩
  · cases h
def gS (g : Str → Str → Bool) : X2 := fun d e => match d, e with
  | .str i, .str j => some (.va (.bool (g i j)))
  | _, _ => none
theorem zS {g : Str → Str → Bool} : Wy2 (rdStr g) (gS g) := fun d e b h Q q => by
  unfold gS at h
  split at h
  · cases h; exact q
  · cases h
def gIsB (neg : Bool) : X2 := fun d e => match d, e with
  | .bool i, .bool j => some (.va (.bool (if neg then !(i == j) else i == j)))
  | _, _ => none
theorem zIsB {neg : Bool} : Wy2 (rdIsB neg) (gIsB neg) := fun d e b h Q q => by
  unfold gIsB at h
  split at h
  · cases h; exact q
  · cases h
def xChain (g g' : X2) (fa fb fc : XE PyData) : XE RV := fun sd => ob (fa sd) fun d => ob (fb sd) fun e => ob (g d e) fun z => match z with
  | .va (.bool true) => ob (fc sd) fun k => g' e k
  | .va (.bool false) => some (.va (.bool false))
  | _ => none
theorem yChain {rd rd' : RD2} {g g' : X2} {wa wb wc : WD} {fa fb fc : XE PyData} (hg : Wy2 rd g) (hg' : Wy2 rd' g') (ha : Wy wa fa) (hb : Wy wb fb) (hc : Wy wc fc) : Wy (wChain rd rd' wa wb wc) (xChain g g' fa fb fc) := fun sd b e Q q => by
  obtain ⟨d, h1, e⟩ := ob_get e
  obtain ⟨d2, h2, e⟩ := ob_get e
  obtain ⟨z, h3, e⟩ := ob_get e
  refine ha sd d h1 _ (hb sd d2 h2 _ (hg d d2 z h3 _ ?_))
  split at e
  · obtain ⟨d3, h4, e⟩ := ob_get e
    exact hc sd d3 h4 _ (hg' d2 d3 b e Q q)
  · cases e; exact q
  · cases e
end DL

set_option Elab.async false
set_option linter.all false
set_option maxRecDepth 100000
set_option maxHeartbeats 4000000
/-! runs that can be computed: targets, statements, loops, comprehensions, defs -/
namespace DL
open PySem PySem.Spec PyProof.Rows L2
/-! ### targets -/
abbrev XT := PyData → SD → Option SD
abbrev XTs := List PyData → SD → Option SD
def WyG (g : WG) (f : XT) : Prop := ∀ d sd s, f d sd = some s → ∀ Q : SD → Prop, Q s → g d sd Q
def WyGs (g : WGs) (f : XTs) : Prop := ∀ d sd s, f d sd = some s → ∀ Q : SD → Prop, Q s → g d sd Q
def xtName (i : Nat) : XT := fun d sd => some (sd.set i (.va d))
theorem ytName (i : Nat) : WyG (gtName i) (xtName i) := fun d sd s h Q q => by cases h; exact q
def xtNil : XTs := fun ds sd => match ds with
  | [] => some sd
  | _ => none
theorem ytNil : WyGs gtNil xtNil := fun ds sd s h Q q => by
  unfold xtNil at h
  split at h
  · cases h; exact ⟨rfl, q⟩
  · cases h
def xtCons (f : XT) (g : XTs) : XTs := fun ds sd => match ds with
  | [] => none
  | d :: ds => ob (f d sd) fun s => g ds s
theorem ytCons {g : WG} {gs : WGs} {f : XT} {fs : XTs} (h : WyG g f) (t : WyGs gs fs) : WyGs (gtCons g gs) (xtCons f fs) := fun ds sd s e Q q => by
  unfold xtCons at e; unfold gtCons
  cases ds with
  | nil => cases e
  | cons d ds =>
    obtain ⟨s1, h1, h2⟩ := ob_get e
    exact h d sd s1 h1 _ (t ds s1 s h2 Q q)
def xtTup (n : Nat) (f : XTs) : XT := fun d sd => match d with
  | .tuple ds => oif (Nat.beq ds.length n) (f ds sd)
  | _ => none
theorem ytTup {n : Nat} {gs : WGs} {f : XTs} (h : WyGs gs f) : WyG (gtTup n gs) (xtTup n f) := fun d sd s e Q q => by
  unfold xtTup at e
  split at e
  · obtain ⟨h0, e⟩ := oif_get e
    exact ⟨Nat.eq_of_beq_eq_true h0, h _ sd s e Q q⟩
  · cases e
/-! ### what may change a slot -/
abbrev XM := SD → Option (RV × SD)
def WyM (w : WM) (f : XM) : Prop := ∀ sd r s, f sd = some (r, s) → ∀ Q : RV → SD → Prop, Q r s → w sd Q
def xm (f : XE RV) : XM := fun sd => ob (f sd) fun z => some (z, sd)
theorem ym {w : WR} {f : XE RV} (h : Wy w f) : WyM (fun sd Q => w sd fun z => Q z sd) (xm f) := fun sd r s e Q q => by
  obtain ⟨z, h1, h2⟩ := ob_get e
  cases h2
  exact h sd r h1 _ q
def xPop (i : Nat) : XM := fun sd => match getS sd i with
  | .ow ds => ob ds.getLast? fun d => some (.va d, sd.set i (.ow ds.dropLast))
  | _ => none
theorem yPop (i : Nat) : WyM (wPop i) (xPop i) := fun sd r s e Q q => by
  unfold xPop at e; unfold wPop onOw
  split at e
  · rename_i ds g
    obtain ⟨z, h1, h2⟩ := ob_get e
    cases h2
    (try rw [g])
    show (match ds.getLast? with | some d => Q (.va d) _ | none => False)
    rw [h1]; exact q
  · cases e
def xFrzM (i : Nat) : XM := fun sd => match getS sd i with
  | .ow ds => some (.va (.list ds), sd.set i (.va (.list ds)))
  | .od ds => some (.va (.dict ds), sd.set i (.va (.dict ds)))
  | .va d => some (.va d, sd)
  | _ => none
theorem yFrzM (i : Nat) : WyM (wFrz i) (xFrzM i) := fun sd r s e Q q => by
  unfold xFrzM at e; unfold wFrz
  split at e
  · rename_i ds g; cases e; (try rw [g]); exact q
  · rename_i ds g; cases e; (try rw [g]); exact q
  · rename_i ds g; cases e; (try rw [g]); exact q
  · cases e
def xmCall1 (g : List AV → Option RV) (f : XM) : XM := fun sd => ob (f sd) fun p => ob (g [.va p.1.dat]) fun r => some (r, p.2)
theorem ymCall1 {fs : FSp} {g : List AV → Option RV} {w : WM} {f : XM} (hg : Wy fs g) (h : WyM w f) : WyM (fun sd Q => w sd fun z sd' => fs [.va z.dat] fun r => Q r sd') (xmCall1 g f) := fun sd r s e Q q => by
  obtain ⟨⟨z, s1⟩, h1, e⟩ := ob_get e
  obtain ⟨r1, h2, e⟩ := ob_get e
  cases e
  exact h sd z s1 h1 _ (hg _ r h2 _ q)
/-! ### statements -/
inductive Fl where
  | nx (sd : SD)
  | rt (z : RV)
  | bk (sd : SD)
  | ct (sd : SD)
def Fl.to (E : ED) : Fl → Prop
  | .nx sd => E.nx sd
  | .rt z => E.rt z
  | .bk sd => E.bk sd
  | .ct sd => E.ct sd
abbrev XS := SD → Option Fl
def WyS (w : WS) (f : XS) : Prop := ∀ sd r, f sd = some r → ∀ E : ED, r.to E → w E sd
def xbNil : XS := fun sd => some (.nx sd)
theorem ybNil : WyS (fun E sd => E.nx sd) xbNil := fun sd r e E q => by cases e; exact q
theorem yPass : WyS (fun E sd => E.nx sd) xbNil := ybNil
def xBreak : XS := fun sd => some (.bk sd)
theorem yBreak : WyS (fun E sd => E.bk sd) xBreak := fun sd r e E q => by cases e; exact q
def xCont : XS := fun sd => some (.ct sd)
theorem yCont : WyS (fun E sd => E.ct sd) xCont := fun sd r e E q => by cases e; exact q
def xSeq (f g : XS) : XS := fun sd => ob (f sd) fun r => match r with
  | .nx s => g s
  | r => some r
theorem ySeq {w u : WS} {f g : XS} (h : WyS w f) (k : WyS u g) : WyS (fun E sd => w { E with nx := fun sd' => u E sd' } sd) (xSeq f g) := fun sd r e E q => by
  obtain ⟨r1, h1, e⟩ := ob_get e
  refine h sd r1 h1 _ ?_
  cases r1 with
  | nx s => exact k s r e E q
  | rt z => cases e; exact q
  | bk s => cases e; exact q
  | ct s => cases e; exact q
def xFrzB (i : Nat) (f : XS) : XS := fun sd => f (frzD i sd)
theorem yFrzB {i : Nat} {w : WS} {f : XS} (h : WyS w f) : WyS (fun E sd => w E (frzD i sd)) (xFrzB i f) := fun sd r e E q => h _ r e E q
def xRet (f : XE RV) : XS := fun sd => ob (f sd) fun z => some (.rt z)
theorem yRet {w : WR} {f : XE RV} (h : Wy w f) : WyS (fun E sd => w sd E.rt) (xRet f) := fun sd r e E q => by
  obtain ⟨z, h1, e⟩ := ob_get e
  cases e
  exact h sd z h1 _ q
def xRetN : XS := fun _ => some (.rt (.va .none))
theorem yRetN : WyS (fun E _ => E.rt (.va .none)) xRetN := fun sd r e E q => by cases e; exact q
def xRetO (i : Nat) : XS := fun sd => match getS sd i with
  | .ow ds => some (.rt (.fr ds))
  | .od ds => some (.rt (.fd ds))
  | .va d => some (.rt (.va d))
  | _ => none
theorem yRetO (i : Nat) : WyS (wRetO i) (xRetO i) := fun sd r e E q => by
  unfold xRetO at e; unfold wRetO
  split at e
  · rename_i ds g; cases e; (try rw [g]); exact q
  · rename_i ds g; cases e; (try rw [g]); exact q
  · rename_i ds g; cases e; (try rw [g]); exact q
  · cases e
def xIfS (t : XE Bool) (f g : XS) : XS := fun sd => ob (t sd) fun b => match b with
  | true => f sd
  | false => g sd
theorem yIfS {t : WB} {w u : WS} {ft : XE Bool} {f g : XS} (ht : Wy t ft) (h : WyS w f) (k : WyS u g) : WyS (wIfS t w u) (xIfS ft f g) := fun sd r e E q => by
  obtain ⟨b, h1, e⟩ := ob_get e
  refine ht sd b h1 _ ?_
  cases b with
  | true => exact h sd r e E q
  | false => exact k sd r e E q
def xSet (i : Nat) (f : XE RV) : XS := fun sd => ob (f sd) fun z => some (.nx (sd.set i z.sv))
theorem ySet {i : Nat} {w : WR} {f : XE RV} (h : Wy w f) : WyS (fun E sd => w sd fun z => E.nx (sd.set i z.sv)) (xSet i f) := fun sd r e E q => by
  obtain ⟨z, h1, e⟩ := ob_get e
  cases e
  exact h sd z h1 _ q
def xDrop (f : XE RV) : XS := fun sd => ob (f sd) fun _ => some (.nx sd)
theorem yDrop {w : WR} {f : XE RV} (h : Wy w f) : WyS (fun E sd => w sd fun _ => E.nx sd) (xDrop f) := fun sd r e E q => by
  obtain ⟨z, h1, e⟩ := ob_get e
  cases e
  exact h sd z h1 _ q
def xSetM (i : Nat) (f : XM) : XS := fun sd => ob (f sd) fun p => some (.nx (p.2.set i p.1.sv))
theorem ySetM {i : Nat} {w : WM} {f : XM} (h : WyM w f) : WyS (fun E sd => w sd fun z sd' => E.nx (sd'.set i z.sv)) (xSetM i f) := fun sd r e E q => by
  obtain ⟨⟨z, s⟩, h1, e⟩ := ob_get e
  cases e
  exact h sd z s h1 _ q
def xPar (i j : Nat) (f g : XE RV) : XS := fun sd => ob (f sd) fun z1 => ob (g sd) fun z2 => some (.nx ((sd.set i z1.sv).set j z2.sv))
theorem yPar {i j : Nat} {wa wb : WR} {f g : XE RV} (h : Wy wa f) (k : Wy wb g) : WyS (fun E sd => wa sd fun z1 => wb sd fun z2 => E.nx ((sd.set i z1.sv).set j z2.sv)) (xPar i j f g) := fun sd r e E q => by
  obtain ⟨z1, h1, e⟩ := ob_get e
  obtain ⟨z2, h2, e⟩ := ob_get e
  cases e
  exact h sd z1 h1 _ (k sd z2 h2 _ q)
def xPar3 (i j l : Nat) (f : XE (List PyData)) : XS := fun sd => ob (f sd) fun ds => match ds with
  | [d1, d2, d3] => some (.nx (((sd.set i (.va d1)).set j (.va d2)).set l (.va d3)))
  | _ => none
theorem yPar3 {i j l : Nat} {w : WL} {f : XE (List PyData)} (h : Wy w f) : WyS (wPar3 i j l w) (xPar3 i j l f) := fun sd r e E q => by
  obtain ⟨ds, h1, e⟩ := ob_get e
  refine h sd ds h1 _ ?_
  split at e
  · cases e; exact q
  · cases e
def xAsg (f : XM) (g : XT) : XS := fun sd => ob (f sd) fun p => ob (g p.1.dat p.2) fun s => some (.nx s)
theorem yAsg {w : WM} {f : XM} {g : WG} {fg : XT} (h : WyM w f) (k : WyG g fg) : WyS (fun E sd => w sd fun z sd' => g z.dat sd' E.nx) (xAsg f fg) := fun sd r e E q => by
  obtain ⟨⟨z, s⟩, h1, e⟩ := ob_get e
  obtain ⟨s2, h2, e⟩ := ob_get e
  cases e
  exact h sd z s h1 _ (k _ _ s2 h2 _ q)
def xAugI (i : Nat) (f : XE PyData) : XS := fun sd => match getS sd i with
  | .va (.int a) => ob (f sd) fun d => match d with
    | .int b => some (.nx (sd.set i (.va (.int (a + b)))))
    | _ => none
  | _ => none
theorem yAugI {i : Nat} {w : WD} {f : XE PyData} (h : Wy w f) : WyS (wAugI i w) (xAugI i f) := fun sd r e E q => by
  unfold xAugI at e; unfold wAugI
  split at e
  · rename_i a g
    (try rw [g])
    obtain ⟨d, h1, e⟩ := ob_get e
    refine h sd d h1 _ ?_
    split at e
    · cases e; exact q
    · cases e
  · cases e
def xAppend (i : Nat) (f : XE RV) : XS := fun sd => match getS sd i with
  | .ow ds => ob (f sd) fun z => oif (Nat.ble (ds.length + 1) sizeLine) (some (.nx (sd.set i (.ow (ds ++ [z.dat])))))
  | _ => none
theorem yAppend {i : Nat} {w : WR} {f : XE RV} (h : Wy w f) : WyS (wAppend i w) (xAppend i f) := fun sd r e E q => by
  unfold xAppend at e; unfold wAppend onOw
  split at e
  · rename_i ds g
    (try rw [g])
    obtain ⟨z, h1, e⟩ := ob_get e
    obtain ⟨h0, e⟩ := oif_get e
    cases e
    exact h sd z h1 _ ⟨Nat.le_of_ble_eq_true h0, q⟩
  · cases e
def xExtend (i : Nat) (f : XE PyData) : XS := fun sd => match getS sd i with
  | .ow ds => ob (f sd) fun d => ob (itemsD d) fun zs => oif (Nat.ble (ds.length + zs.length) sizeLine) (some (.nx (sd.set i (.ow (ds ++ zs)))))
  | _ => none
theorem yExtend {i : Nat} {w : WD} {f : XE PyData} (h : Wy w f) : WyS (wExtend i w) (xExtend i f) := fun sd r e E q => by
  unfold xExtend at e; unfold wExtend onOw
  split at e
  · rename_i ds g
    (try rw [g])
    obtain ⟨z, h1, e⟩ := ob_get e
    obtain ⟨zs, h2, e⟩ := ob_get e
    obtain ⟨h0, e⟩ := oif_get e
    cases e
    exact h sd z h1 _ (zItems z zs h2 _ ⟨Nat.le_of_ble_eq_true h0, q⟩)
  · cases e
/-! ### loops -/
def forX (g : XT) (f : XS) : List PyData → SD → Option Fl
  | [], sd => some (.nx sd)
  | d :: ds, sd => ob (g d sd) fun s1 => ob (f s1) fun r => match r with
    | .nx s => forX g f ds s
    | .ct s => forX g f ds s
    | .bk s => some (.nx s)
    | .rt z => some (.rt z)
theorem yforX {g : WG} {w : WS} {fg : XT} {f : XS} (hg : WyG g fg) (h : WyS w f) {E : ED} : ∀ (ds : List PyData) (sd : SD) (r : Fl), forX fg f ds sd = some r → r.to E → forW g w E ds sd
  | [], sd, r, e, q => by cases e; exact q
  | d :: ds, sd, r, e, q => by
    obtain ⟨s1, h1, e⟩ := ob_get (show ob (fg d sd) _ = _ from e)
    obtain ⟨r1, h2, e⟩ := ob_get e
    refine hg d sd s1 h1 _ (h s1 r1 h2 _ ?_)
    cases r1 with
    | nx s => exact yforX hg h ds s r e q
    | ct s => exact yforX hg h ds s r e q
    | bk s => cases e; exact q
    | rt z => cases e; exact q
def xFor (f : XM) (g : XT) (fb : XS) : XS := fun sd => ob (f sd) fun p => ob (itemsD p.1.dat) fun ds => forX g fb ds p.2
theorem yFor {w : WM} {f : XM} {g : WG} {fg : XT} {wb : WS} {fb : XS} (h : WyM w f) (hg : WyG g fg) (hb : WyS wb fb) : WyS (fun E sd => w sd fun z sd' => dItems z.dat fun ds => forW g wb E ds sd') (xFor f fg fb) := fun sd r e E q => by
  obtain ⟨⟨z, s⟩, h1, e⟩ := ob_get e
  obtain ⟨ds, h2, e⟩ := ob_get e
  exact h sd z s h1 _ (zItems _ ds h2 _ (yforX hg hb ds s r e q))
def int1D : PyData → Option Int
  | .int n => oif (Nat.ble n.natAbs 4611686018427387903) (some n)
  | _ => none
theorem zInt1 : Wy dInt1 int1D := fun d b e Q q => by
  unfold int1D at e
  split at e
  · obtain ⟨h0, e⟩ := oif_get e
    cases e
    have h0 := Nat.le_of_ble_eq_true h0
    have : (2 : Int) ^ 62 = 4611686018427387904 := by decide
    exact ⟨by omega, q⟩
  · cases e
def xForR (f : XE PyData) (g : XT) (fb : XS) : XS := fun sd => ob (f sd) fun d => ob (int1D d) fun n => forX g fb (rangeD 0 n.toNat) sd
theorem yForR {w : WD} {f : XE PyData} {g : WG} {fg : XT} {wb : WS} {fb : XS} (h : Wy w f) (hg : WyG g fg) (hb : WyS wb fb) : WyS (fun E sd => w sd fun d => dInt1 d fun n => forW g wb E (rangeD 0 n.toNat) sd) (xForR f fg fb) := fun sd r e E q => by
  obtain ⟨d, h1, e⟩ := ob_get e
  obtain ⟨n, h2, e⟩ := ob_get e
  exact h sd d h1 _ (zInt1 d n h2 _ (yforX hg hb _ _ r e q))
def xForR2 (f0 f : XE PyData) (g : XT) (fb : XS) : XS := fun sd => ob (f0 sd) fun d0 => ob (f sd) fun d => ob (int1D d0) fun m => ob (int1D d) fun n => forX g fb (rangeD m (n - m).toNat) sd
theorem yForR2 {w0 w : WD} {f0 f : XE PyData} {g : WG} {fg : XT} {wb : WS} {fb : XS} (h0 : Wy w0 f0) (h : Wy w f) (hg : WyG g fg) (hb : WyS wb fb) : WyS (fun E sd => w0 sd fun d0 => w sd fun d => dInt1 d0 fun m => dInt1 d fun n => forW g wb E (rangeD m (n - m).toNat) sd) (xForR2 f0 f fg fb) := fun sd r e E q => by
  obtain ⟨d0, h1, e⟩ := ob_get e
  obtain ⟨d, h2, e⟩ := ob_get e
  obtain ⟨m, h3, e⟩ := ob_get e
  obtain ⟨n, h4, e⟩ := ob_get e
  exact h0 sd d0 h1 _ (h sd d h2 _ (zInt1 d0 m h3 _ (zInt1 d n h4 _ (yforX hg hb _ _ r e q))))
def zipD : List PyData → Option (List PyData)
  | [.list xs, .list ys] => some (List.zipWith (fun x y => PyData.tuple [x, y]) xs ys)
  | [.tuple xs, .tuple ys] => some (List.zipWith (fun x y => PyData.tuple [x, y]) xs ys)
  | _ => none
theorem zZip : Wy dZip zipD := fun d b e Q q => by
  unfold zipD at e
  split at e
  · cases e; exact q
  · cases e; exact q
  · cases e
def xForZ (f : XE (List PyData)) (g : XT) (fb : XS) : XS := fun sd => ob (f sd) fun vs => ob (zipD vs) fun ds => forX g fb ds sd
theorem yForZ {w : WL} {f : XE (List PyData)} {g : WG} {fg : XT} {wb : WS} {fb : XS} (h : Wy w f) (hg : WyG g fg) (hb : WyS wb fb) : WyS (fun E sd => w sd fun vs => dZip vs fun ds => forW g wb E ds sd) (xForZ f fg fb) := fun sd r e E q => by
  obtain ⟨vs, h1, e⟩ := ob_get e
  obtain ⟨ds, h2, e⟩ := ob_get e
  exact h sd vs h1 _ (zZip vs ds h2 _ (yforX hg hb ds sd r e q))
def whileX (t : XE Bool) (f : XS) : Nat → SD → Option Fl
  | 0, _ => none
  | n + 1, sd => ob (t sd) fun b => match b with
    | false => some (.nx sd)
    | true => ob (f sd) fun r => match r with
      | .nx s => whileX t f n s
      | .ct s => whileX t f n s
      | .bk s => some (.nx s)
      | .rt z => some (.rt z)
def xWhile (n : Nat) (t : XE Bool) (f : XS) : XS := whileX t f n
theorem yWhile {n : Nat} {t : WB} {w : WS} {ft : XE Bool} {f : XS} (ht : Wy t ft) (h : WyS w f) : WyS (wWhile t w) (xWhile n ft f) := fun sd r e E q => by
  refine ⟨fun m s => whileX ft f m s = some r, ⟨n, e⟩, fun m s hm => ?_⟩
  cases m with
  | zero => cases hm
  | succ m =>
    obtain ⟨b, h1, e⟩ := ob_get (show ob (ft s) _ = _ from hm)
    refine ht s b h1 _ ?_
    cases b with
    | false => cases e; exact q
    | true =>
      obtain ⟨r1, h2, e⟩ := ob_get e
      refine h s r1 h2 _ ?_
      cases r1 with
      | nx s1 => exact ⟨m, Nat.lt_succ_self m, e⟩
      | ct s1 => exact ⟨m, Nat.lt_succ_self m, e⟩
      | bk s1 => cases e; exact q
      | rt z => cases e; exact q
/-! ### comprehensions -/
def lcX (g : XT) (t : XE Bool) (f : XE RV) (sd : SD) : List PyData → Option (List PyData)
  | [] => some []
  | d :: ds => ob (g d sd) fun s2 => ob (t s2) fun b => match b with
    | true => ob (f s2) fun z => ob (lcX g t f sd ds) fun out => some (z.dat :: out)
    | false => lcX g t f sd ds
theorem ylcX {g : WG} {t : WB} {w : WR} {fg : XT} {ft : XE Bool} {f : XE RV} (hg : WyG g fg) (ht : Wy t ft) (h : Wy w f) {sd : SD} : ∀ (ds out : List PyData), lcX fg ft f sd ds = some out → ∀ Q : List PyData → Prop, Q out → lcW g t w sd ds Q
  | [], out, e, Q, q => by cases e; exact q
  | d :: ds, out, e, Q, q => by
    obtain ⟨s2, h1, e⟩ := ob_get (show ob (fg d sd) _ = _ from e)
    obtain ⟨b, h2, e⟩ := ob_get e
    refine hg d sd s2 h1 _ (ht s2 b h2 _ ?_)
    cases b with
    | true =>
      obtain ⟨z, h3, e⟩ := ob_get e
      obtain ⟨o2, h4, e⟩ := ob_get e
      cases e
      exact h s2 z h3 _ (ylcX hg ht h ds o2 h4 _ q)
    | false => exact ylcX hg ht h ds out e Q q
def xT : XE Bool := fun _ => some true
theorem yT : Wy (fun (_ : SD) (Q : Bool → Prop) => Q true) xT := fun sd b e Q q => by cases e; exact q
def xLc (vs : List Nat) (fi : XE PyData) (g : XT) (t : XE Bool) (f : XE RV) : XE RV := fun sd => ob (fi sd) fun d => ob (itemsD d) fun ds => oif (okVs sd vs && lenOk ds) (ob (lcX g t f (wipeD sd vs) ds) fun out => some (.fr out))
theorem yLc {vs : List Nat} {wi : WD} {fi : XE PyData} {g : WG} {t : WB} {w : WR} {fg : XT} {ft : XE Bool} {f : XE RV} (hi : Wy wi fi) (hg : WyG g fg) (ht : Wy t ft) (h : Wy w f) :
    Wy (fun sd Q => wi sd fun d => dItems d fun ds => (okVs sd vs = true ∧ ds.length ≤ sizeLine) ∧ lcW g t w (wipeD sd vs) ds fun out => Q (RV.fr out)) (xLc vs fi fg ft f) := fun sd b e Q q => by
  obtain ⟨d, h1, e⟩ := ob_get e
  obtain ⟨ds, h2, e⟩ := ob_get e
  obtain ⟨h0, e⟩ := oif_get e
  obtain ⟨out, h3, e⟩ := ob_get e
  cases e
  rw [Bool.and_eq_true] at h0
  exact hi sd d h1 _ (zItems d ds h2 _ ⟨⟨h0.1, Nat.le_of_ble_eq_true h0.2⟩, ylcX hg ht h ds out h3 _ q⟩)
def xLcR (vs : List Nat) (fi : XE PyData) (g : XT) (t : XE Bool) (f : XE RV) : XE RV := fun sd => ob (fi sd) fun d => ob (int1D d) fun n => oif (okVs sd vs && Nat.ble n.natAbs 1000000) (ob (lcX g t f (wipeD sd vs) (rangeD 0 n.toNat)) fun out => some (.fr out))
theorem yLcR {vs : List Nat} {wi : WD} {fi : XE PyData} {g : WG} {t : WB} {w : WR} {fg : XT} {ft : XE Bool} {f : XE RV} (hi : Wy wi fi) (hg : WyG g fg) (ht : Wy t ft) (h : Wy w f) :
    Wy (fun sd Q => wi sd fun d => dInt1 d fun n => (okVs sd vs = true ∧ n ≤ 1000000) ∧ lcW g t w (wipeD sd vs) (rangeD 0 n.toNat) fun out => Q (RV.fr out)) (xLcR vs fi fg ft f) := fun sd b e Q q => by
  obtain ⟨d, h1, e⟩ := ob_get e
  obtain ⟨n, h2, e⟩ := ob_get e
  obtain ⟨h0, e⟩ := oif_get e
  obtain ⟨out, h3, e⟩ := ob_get e
  cases e
  rw [Bool.and_eq_true] at h0
  have h5 := Nat.le_of_ble_eq_true h0.2
  exact hi sd d h1 _ (zInt1 d n h2 _ ⟨⟨h0.1, by omega⟩, ylcX hg ht h _ out h3 _ q⟩)
/-! ### defs -/
def runX (f : XS) (n : Nat) : List AV → Option RV := fun as => ob (f (startD n as)) fun r => match r with
  | .nx _ => some (.va .none)
  | .rt z => some z
  | _ => none
theorem yRun {w : WS} {f : XS} {n : Nat} {as : List AV} {Q : RV → Prop} (h : WyS w f) (q : fsX (runX f n) as Q) : w (endE Q) (startD n as) := by
  unfold fsX at q
  cases e : runX f n as with
  | none => rw [e] at q; exact q.elim
  | some z =>
    rw [e] at q
    obtain ⟨r, h1, e⟩ := ob_get (show ob (f (startD n as)) _ = _ from e)
    refine h _ r h1 _ ?_
    cases r with
    | nx s => cases e; exact q
    | rt z => cases e; exact q
    | bk s => cases e
    | ct s => cases e
end DL

set_option Elab.async false
set_option linter.all false
set_option maxRecDepth 100000
set_option maxHeartbeats 4000000
/-! min and max of two, ranges as lists, index, in over data of any depth, powers -/
namespace DL
open PySem PySem.Spec PyProof.Rows L2
variable [Tb]
section
variable {X : Cx} {a b e o : Expr} {pos p p2 q apos : Pos} {w wa wb : WD} {wl : WL}
theorem dms_two {K : PySem.W.Frag} {S O : List Addr} {H : Hp} {m : Md} {vs : List V} {d e : PyData} (h : DMs m K S O H vs [d, e]) : ∃ x y, vs = [x, y] ∧ DM m K S O H x d ∧ DM m K S O H y e := by
  cases h with
  | cons h1 t => cases t with
    | cons h2 t => cases t; exact ⟨_, _, rfl, h1, h2⟩
def rd2I (f : Int → Int → Int) : RDn := fun ds Q => match ds with
  | [.int i, .int j] => Q (.va (.int (f i j)))
  | _ => False
theorem rd2I_mo {f : Int → Int → Int} : MoN (rd2I f) := fun ds Q Q' k q => by
  unfold rd2I at q ⊢
  split at q
  · exact k _ q
  · exact q.elim
theorem br_2I {K : PySem.W.Frag} {f : Int → Int → Int} : BrN K .sh (fun xs H Q => ∃ i j, xs = [.int i, .int j] ∧ Q (.int (f i j)) H) (rd2I f) := fun S O H xs ds Q hs hO hd q => by
  unfold rd2I at q
  split at q
  · obtain ⟨x, y, rfl, h1, h2⟩ := dms_two hd
    exact ⟨_, _, by rw [shInt h1, shInt h2], q _ H (Same.refl H) (.int _)⟩
  · exact q.elim
theorem cd_max2 (hc : X.calm = true) : CallD X (.builtin "max") .sh (rd2I fun i j => if j > i then j else i) := ⟨⟨_, call_max2 hc, br_2I⟩, rd2I_mo⟩
theorem cd_min2 (hc : X.calm = true) : CallD X (.builtin "min") .sh (rd2I fun i j => if j < i then j else i) := ⟨⟨_, call_min2 hc, br_2I⟩, rd2I_mo⟩
def g2I (f : Int → Int → Int) : List PyData → Option RV := fun ds => match ds with
  | [.int i, .int j] => some (.va (.int (f i j)))
  | _ => none
theorem z2I {f : Int → Int → Int} : Wy (rd2I f) (g2I f) := fun ds b e Q q => by
  unfold g2I at e; unfold rd2I
  split at e
  · cases e; exact q
  · cases e
def gMax2 := g2I fun i j => if j > i then j else i
def gMin2 := g2I fun i j => if j < i then j else i
theorem zMax2 : Wy (rd2I fun i j => if j > i then j else i) gMax2 := z2I
theorem zMin2 : Wy (rd2I fun i j => if j < i then j else i) gMin2 := z2I
/-! ### list(range(n)), tuple(range(n)) -/
def rngOk (n : Int) : Prop := -(2 ^ 62) ≤ n ∧ n ≤ 1000000
def dRng (d : PyData) (k : Int → Prop) : Prop := match d with
  | .int n => (-4611686018427387904 ≤ n ∧ n ≤ 1000000) ∧ k n
  | _ => False
theorem dRng_mo {d : PyData} {k k' : Int → Prop} (h : ∀ n, k n → k' n) (q : dRng d k) : dRng d k' := by
  unfold dRng at q ⊢
  split at q
  · exact ⟨q.1, h _ q.2⟩
  · exact q.elim
theorem rg_all {K : PySem.W.Frag} {H : Hp} (n : Int) : DxAll K H (rgV 0 n) (rangeD 0 n.toNat) := by
  unfold rgV rangeD
  rw [Int.sub_zero]
  have : ∀ l : List Nat, DxAll K H (l.map fun i => V.int ((0 : Int) + (i : Nat))) (l.map fun (k : Nat) => PyData.int ((0 : Int) + k)) := fun l => by
    induction l with
    | nil => exact .nil
    | cons i l ih => exact .cons (.int _) ih
  exact this _
theorem rg_ok {n : Int} (h : -4611686018427387904 ≤ n ∧ n ≤ 1000000) : RgOk 0 n := by
  have e1 : (2 : Int) ^ 62 = 4611686018427387904 := by decide
  have e2 : (2 : Nat) ^ 24 = 16777216 := by decide
  refine ⟨by omega, by omega, by omega, by omega, ?_⟩
  rw [e2]; omega
theorem evr_listRg (h : Ev .sh X a w) (hc : X.calm = true) (hm : X.mg "list" = none) (hm2 : X.mg "range" = none) (hg : Gl X "list" := by rfl) (hg2 : Gl X "range" := by rfl)
    (na : starEach [a] X.env = (false, eval a X.env) :: starEach [] X.env := by rfl) (nb : starEach [.Call (.Name "range" p2) [a] [] q] X.env = (false, eval (.Call (.Name "range" p2) [a] [] q) X.env) :: starEach [] X.env := by rfl) :
    EvR X (.Call (.Name "list" p) [.Call (.Name "range" p2) [a] [] q] [] pos) (fun sd Q => w sd fun d => dRng d fun n => Q (.fr (rangeD 0 n.toNat))) where
  pe := PE.weak (pe_listRg hc hg hm (prg_1 hg2 hm2 h.pe na) nb) fun σ H Q ⟨c, sd, os, hk, r, q⟩ => ⟨c, sd, os, hk, r, h.mo _ _ _ (fun d kq v H1 x1 dm => by
    unfold dRng at kq
    split at kq
    · exact ⟨_, shInt dm, rg_ok kq.1, fun l hl => kq.2 _ _ (x1.trans (Ext.of (same_new hl))) (RvR.from r.sO (fun a m => (r.grow x1).there m) x1 (rv_lst hl (rg_all _)))⟩
    · exact kq.elim) q⟩
  mo := fun sd Q Q' k q => h.mo _ _ _ (fun d z => dRng_mo (fun n y => k _ y) z) q
theorem evr_tupRg (h : Ev .sh X a w) (hc : X.calm = true) (hm : X.mg "tuple" = none) (hm2 : X.mg "range" = none) (hg : Gl X "tuple" := by rfl) (hg2 : Gl X "range" := by rfl)
    (na : starEach [a] X.env = (false, eval a X.env) :: starEach [] X.env := by rfl) (nb : starEach [.Call (.Name "range" p2) [a] [] q] X.env = (false, eval (.Call (.Name "range" p2) [a] [] q) X.env) :: starEach [] X.env := by rfl) :
    EvR X (.Call (.Name "tuple" p) [.Call (.Name "range" p2) [a] [] q] [] pos) (fun sd Q => w sd fun d => dRng d fun n => Q (.va (.tuple (rangeD 0 n.toNat)))) where
  pe := PE.weak (pe_tupRg hc hg hm (prg_1 hg2 hm2 h.pe na) nb) fun σ H Q ⟨c, sd, os, hk, r, q⟩ => ⟨c, sd, os, hk, r, h.mo _ _ _ (fun d kq v H1 x1 dm => by
    unfold dRng at kq
    split at kq
    · exact ⟨_, shInt dm, rg_ok kq.1, fun l hl => kq.2 _ _ (x1.trans (Ext.of (same_new hl))) (rv_tup hl (fun a m => (r.grow x1).there m) (rg_all _))⟩
    · exact kq.elim) q⟩
  mo := fun sd Q Q' k q => h.mo _ _ _ (fun d z => dRng_mo (fun n y => k _ y) z) q
def rngD : PyData → Option Int
  | .int n => oif (Nat.ble n.natAbs 1000000) (some n)
  | _ => none
theorem zRng : Wy dRng rngD := fun d b e Q q => by
  unfold rngD at e
  split at e
  · obtain ⟨h0, e⟩ := oif_get e
    cases e
    have h0 := Nat.le_of_ble_eq_true h0
    exact ⟨by omega, q⟩
  · cases e
def xListRg (f : XE PyData) : XE RV := fun sd => ob (f sd) fun d => ob (rngD d) fun n => some (.fr (rangeD 0 n.toNat))
theorem yListRg {f : XE PyData} (h : Wy w f) : Wy (fun sd Q => w sd fun d => dRng d fun n => Q (RV.fr (rangeD 0 n.toNat))) (xListRg f) := fun sd b e Q q => by
  obtain ⟨d, h1, e⟩ := ob_get e
  obtain ⟨n, h2, e⟩ := ob_get e
  cases e
  exact h sd d h1 _ (zRng d n h2 _ q)
def xTupRg (f : XE PyData) : XE RV := fun sd => ob (f sd) fun d => ob (rngD d) fun n => some (.va (.tuple (rangeD 0 n.toNat)))
theorem yTupRg {f : XE PyData} (h : Wy w f) : Wy (fun sd Q => w sd fun d => dRng d fun n => Q (RV.va (.tuple (rangeD 0 n.toNat)))) (xTupRg f) := fun sd b e Q q => by
  obtain ⟨d, h1, e⟩ := ob_get e
  obtain ⟨n, h2, e⟩ := ob_get e
  cases e
  exact h sd d h1 _ (zRng d n h2 _ q)
/-! ### x in y, also of nested data -/
theorem sh_tl {ds : List PyData} (h : SeqAt.shaped (.list ds) = true) : SeqAt.shaped (.tuple ds) = true := by simpa [SeqAt.shaped, PyData.canLay0, PyData.depth] using h
def rInX (K : PySem.W.Frag) (neg : Bool) : R2 := fun x y H Q => ∃ d ds, Dp K H x d ∧ (Dp K H y (.list ds) ∨ Dp K H y (.tuple ds)) ∧ SeqAt.shaped d = true ∧ SeqAt.shaped (.list ds) = true ∧ Q (.bl (if neg then !(ds.any fun z => PyData.eqv z d) else ds.any fun z => PyData.eqv z d)) H
theorem op_inX (hu : X.A.units + 65 < cLine) : OpR X (compareOp .In) (rInX X.K false) := by
  rintro pins s σ H x y v u Q I rx ry ⟨d, ds, hd, he | he, sd, se, q⟩
  · obtain ⟨as, r1⟩ := Dp.reads I d x v hd rx
    obtain ⟨bs, r2⟩ := Dp.reads I (.list ds) y u he ry
    refine SeqAt.in_list_reads r2 r1 (SeqAt.canLay_of_shaped se) (SeqAt.canLay_of_shaped sd) (room_in_shaped sd hu) ⟨.bl _, H, I, rfl, q⟩
  · obtain ⟨as, r1⟩ := Dp.reads I d x v hd rx
    obtain ⟨bs, r2⟩ := Dp.reads I (.tuple ds) y u he ry
    refine SeqAt.in_tuple_reads r2 r1 (SeqAt.canLay_of_shaped se) (SeqAt.canLay_of_shaped sd) (room_in_shaped sd hu) ⟨.bl _, H, I, rfl, q⟩
theorem op_notInX (hu : X.A.units + 65 < cLine) : OpR X (compareOp .NotIn) (rInX X.K true) := by
  rintro pins s σ H x y v u Q I rx ry ⟨d, ds, hd, he | he, sd, se, q⟩
  · obtain ⟨as, r1⟩ := Dp.reads I d x v hd rx
    obtain ⟨bs, r2⟩ := Dp.reads I (.list ds) y u he ry
    refine SeqAt.notIn_list_reads r2 r1 (SeqAt.canLay_of_shaped se) (SeqAt.canLay_of_shaped sd) (room_in_shaped sd hu) ⟨.bl _, H, I, rfl, q⟩
  · obtain ⟨as, r1⟩ := Dp.reads I d x v hd rx
    obtain ⟨bs, r2⟩ := Dp.reads I (.tuple ds) y u he ry
    refine SeqAt.notIn_tuple_reads r2 r1 (SeqAt.canLay_of_shaped se) (SeqAt.canLay_of_shaped sd) (room_in_shaped sd hu) ⟨.bl _, H, I, rfl, q⟩
def rdInX (neg : Bool) : RD2 := fun d e Q => dItems e fun ys => (SeqAt.shaped d = true ∧ SeqAt.shaped (.list ys) = true) ∧ Q (.va (.bool (if neg then !(ys.any fun y => y.eqv d) else ys.any fun y => y.eqv d)))
theorem rdInX_mo {neg : Bool} : Mo2 (rdInX neg) := fun d e Q Q' k q => dItems_mo (fun ds z => ⟨z.1, k _ z.2⟩) q
theorem br_inX {K : PySem.W.Frag} {neg : Bool} : Br2 K .bo .bo (rInX K neg) (rdInX neg) := by
  intro S O H x y d e Q hs hO hx hy q
  unfold rdInX dItems at q
  split at q
  · exact ⟨d, _, boDp hx q.1.1, .inl (boDp hy q.1.2), q.1.1, q.1.2, q.2 _ H (Same.refl H) (.bl _)⟩
  · exact ⟨d, _, boDp hx q.1.1, .inr (boDp hy (sh_tl q.1.2)), q.1.1, q.1.2, q.2 _ H (Same.refl H) (.bl _)⟩
  · exact q.elim
theorem od_inX (hu : X.A.units + 65 < cLine) : OpD X (compareOp .In) .bo .bo (rdInX false) := ⟨⟨_, op_inX hu, br_inX⟩, rdInX_mo⟩
theorem od_notInX (hu : X.A.units + 65 < cLine) : OpD X (compareOp .NotIn) .bo .bo (rdInX true) := ⟨⟨_, op_notInX hu, br_inX⟩, rdInX_mo⟩
def gInX (neg : Bool) : X2 := fun d e => ob (itemsD e) fun ys => oif (SeqAt.shaped d && SeqAt.shaped (.list ys)) (some (.va (.bool (if neg then !(ys.any fun y => y.eqv d) else ys.any fun y => y.eqv d))))
theorem zInX {neg : Bool} : Wy2 (rdInX neg) (gInX neg) := fun d e b h Q q => by
  obtain ⟨ys, h1, h⟩ := ob_get h
  obtain ⟨h0, h⟩ := oif_get h
  cases h
  rw [Bool.and_eq_true] at h0
  exact zItems e ys h1 _ ⟨h0, q⟩
/-! ### powers -/
def powOk (i j : Int) : Bool := (decide (0 ≤ j) && Nat.ble j.natAbs 1000000) && Nat.ble i.natAbs 18446744073709551615
theorem od_pow : OpD X (binaryOp .Pow) .sh .sh (rdInt CPow fun i j => .int (i ^ j.toNat)) := opd_int op_pow fun _ _ _ _ => .int _
def gPow : X2 := gI powOk fun i j => .int (i ^ j.toNat)
theorem zPow : Wy2 (rdInt CPow fun i j => .int (i ^ j.toNat)) gPow := zI fun i j h => by
  unfold powOk at h
  rw [Bool.and_eq_true, Bool.and_eq_true] at h
  have h1 := of_decide_eq_true h.1.1
  have h2 := Nat.le_of_ble_eq_true h.1.2
  have h3 := Nat.le_of_ble_eq_true h.2
  have : (2 : Nat) ^ 64 = 18446744073709551616 := by decide
  exact ⟨h1, by omega, by omega⟩
/-! ### l.index(x) -/
def firstAt (d : PyData) : List PyData → Nat → Option Nat
  | [], _ => none
  | y :: ys, n => match y.eqv d with
    | true => some n
    | false => firstAt d ys (n + 1)
theorem firstAt_get {d : PyData} : ∀ {ys : List PyData} {n j : Nat}, firstAt d ys n = some j → ∃ k, j = n + k ∧ (∃ z, ys[k]? = some z ∧ z.eqv d = true) ∧ ∀ m z', m < k → ys[m]? = some z' → PyData.eqv z' d = false
  | [], _, _, h => by cases h
  | y :: ys, n, j, h => by
    unfold firstAt at h
    cases e : y.eqv d with
    | true => rw [e] at h; cases h; exact ⟨0, rfl, ⟨y, rfl, e⟩, fun m z' hm => absurd hm (Nat.not_lt_zero m)⟩
    | false =>
      rw [e] at h
      obtain ⟨k, e1, ⟨z, hz, ez⟩, hn⟩ := firstAt_get h
      refine ⟨k + 1, by omega, ⟨z, by simpa using hz, ez⟩, fun m z' hm hz' => ?_⟩
      cases m with
      | zero => simp at hz'; rw [← hz']; exact e
      | succ m => exact hn m z' (by omega) (by simpa using hz')
def onLst (d : PyData) (k : List PyData → Prop) : Prop := match d with
  | .list ys => k ys
  | _ => False
theorem onLst_mo {d : PyData} {k k' : List PyData → Prop} (h : ∀ ys, k ys → k' ys) (q : onLst d k) : onLst d k' := by
  unfold onLst at q ⊢
  split at q
  · exact h _ q
  · exact q.elim
def onSome {α : Type} (o : Option α) (k : α → Prop) : Prop := match o with
  | some j => k j
  | none => False
theorem onSome_mo {α : Type} {o : Option α} {k k' : α → Prop} (h : ∀ ys, k ys → k' ys) (q : onSome o k) : onSome o k' := by
  cases o with
  | none => exact q
  | some j => exact h j q
theorem onSome_get {α : Type} {o : Option α} {k : α → Prop} (q : onSome o k) : ∃ j, o = some j ∧ k j := by
  cases o with
  | none => exact q.elim
  | some j => exact ⟨j, rfl, q⟩
def wIndex (w wb : WD) : WR := fun sd Q => w sd fun d => onLst d fun ys => wb sd fun e => (flatD e = true ∧ ys.all flatD = true) ∧ onSome (firstAt e ys 0) fun j => Q (.va (.int (j : Nat)))
theorem wIndex_mo (h : Ev .sh X o w) (hb : Ev .cl X b wb) : ∀ sd (Q Q' : RV → Prop), (∀ r, Q r → Q' r) → wIndex w wb sd Q → wIndex w wb sd Q' := fun sd Q Q' k q =>
  h.mo _ _ _ (fun d z => onLst_mo (fun ys z => hb.mo _ _ _ (fun e z => ⟨z.1, onSome_mo (fun j z => k _ z) z.2⟩) z) z) q
theorem evr_index (h : Ev .sh X o w) (hb : Ev .cl X b wb)
    (hbase : attributeBase o "index" X.env (eval o X.env) = eval o X.env := by rfl)
    (hfew : ((backTo q (starEach [b] X.env)).all (fun x => !x.1) && (backToKw q (keywordEach [] X.env)).all (fun x => x.1.isSome)
      && decide ([b].length + ([] : List Keyword).length + (if ([] : List Keyword).isEmpty then 0 else 1) < 30)) = true := by rfl)
    (hline : (apos.endLine == q.line) = true := by rfl) (hs : starEach [b] X.env = (false, eval b X.env) :: starEach [] X.env := by rfl) (hplain : (backTo q (starEach [] X.env)).any (·.1) = false := by rfl) :
    EvR X (.Call (.Attribute o "index" apos) [b] [] q) (wIndex w wb) where
  pe := PE.weak (pe_bm F.plainAttrs_list F.slot_list_index F.type_list_index mt_index h.pe (pa_cons hb.pe pa_nil hs) hbase hfew hline hs hplain) fun σ H Q ⟨c, sd, os, hk, r, q⟩ =>
    ⟨c, sd, os, hk, r, h.mo _ _ _ (fun d kq v H1 x1 dm => by
      have r1 := r.grow x1
      unfold onLst at kq
      split at kq
      · rename_i ys
        obtain ⟨l, us, rfl, h1, h2⟩ := dm
        refine ⟨.inl ⟨rfl, us, .inl (.inl (hid_some h1).2)⟩, c, sd, os, hk, r1, hb.mo _ _ _ (fun e ke u H2 x2 em => ?_) kq⟩
        obtain ⟨⟨f1, f2⟩, ke⟩ := ke
        obtain ⟨j, ej, qj⟩ := onSome_get ke
        obtain ⟨k, e1, ⟨z, hz, ez⟩, hn⟩ := firstAt_get ej
        have e1 : j = k := by omega
        subst e1
        have h1' := hid_grow (fun _ h => h) x2 h1
        have h2' := DxAll.grow r.sO x2 h2
        obtain ⟨y, gy, dy⟩ := DxAll.get h2' hz
        have fz : ∀ z ∈ ys, flatD z = true := fun z m => List.all_eq_true.mp f2 z m
        refine ⟨l, us, u, j, y, rfl, rfl, .inl (.inl (hid_some h1').2), em.flat f1, flats h2' f2, gy, ?_, fun m z' hm hz' => ?_, qj _ _ (x1.trans x2) (.int _)⟩
        · rw [eqV_data dy em (fz z (List.mem_of_getElem? hz)) f1]; exact ez
        · obtain ⟨w', gw, dw'⟩ := DxAll.get' h2' hz'
          rw [eqV_data dw' em (fz w' (List.mem_of_getElem? gw)) f1]; exact hn m w' hm gw
      · exact kq.elim) q⟩
  mo := wIndex_mo h hb
def xIndex (f fb : XE PyData) : XE RV := fun sd => ob (f sd) fun d => match d with
  | .list ys => ob (fb sd) fun e => oif (flatD e && ys.all flatD) (ob (firstAt e ys 0) fun j => some (.va (.int (j : Nat))))
  | _ => none
theorem yIndex {f fb : XE PyData} (h : Wy w f) (hb : Wy wb fb) : Wy (wIndex w wb) (xIndex f fb) := fun sd b e Q q => by
  obtain ⟨d, h1, e⟩ := ob_get e
  refine h sd d h1 _ ?_
  split at e
  · obtain ⟨e1, h2, e⟩ := ob_get e
    obtain ⟨h0, e⟩ := oif_get e
    obtain ⟨j, h3, e⟩ := ob_get e
    cases e
    rw [Bool.and_eq_true] at h0
    refine hb sd e1 h2 _ ⟨h0, ?_⟩
    rw [h3]; exact q
  · cases e
end
end DL

set_option Elab.async false
set_option linter.all false
set_option maxRecDepth 100000
/-! sorted(set(xs)) of ints -/
namespace DL
open PySem PySem.Spec PyProof.Rows L2
variable [Tb]
/-- a new set -/
abbrev oSet (w : World) : Obj := { cls := .type "set", dict := none, data := .set #[] 0 (.fresh 0 0 (!w.params.followText "set-order")) }
section
variable {P : Program} {w : World} {A : Around} {E : Value → Shared → Prop} {s : Shared}
set_option maxHeartbeats 8000000 in
theorem set_of_list {l : Addr} {its : Array Value} (ns : List Int) {Q : Value → Shared → Prop} (nh : A.handled = none) (isl : s.heap.IsList l its) (iv : IntsAre its.toList ns) (few : ns.length + 1 < scanBound)
    (q : ∀ (g : Heap) (tk c : Nat), SetR w g s.heap.objs.size (fun j => decide (j ∈ ns)) c → c ≤ ns.length → (∀ b o, s.heap.get? b = some o → g.get? b = some o) →
      Q (.ref s.heap.objs.size) { s with heap := g, toks := tk }) : wpAny (model P w) A (call (.type "set") [.ref l]) Q E s := by
  have many : its.size = ns.length := by rw [← Array.length_toList]; exact IntsAre.length iv
  obtain ⟨mc, mt, mro⟩ := F.called_set.mro
  have made := F.called_set.made; have subs := F.called_set.sub
  refine wpAny_call (codeAny_of_tree ?_); show wpAny _ _ (callAny (.type "set") _) _ _ _
  refine wpAny_pure ⟨Code.quiet_builtin _ (by decide +kernel), codeAny_builtin F.entry_type_call ?_⟩; rw [Around.under_plain (weight_type_call_type "set" [.ref l] []) rfl]
  have k1 := F.called_set.notType; have k2 := F.called_set.canCreate; have k3 := F.typeCall_set_1 (.ref l)
  repeat (any_goals (first | assumption | wp_step))
  refine codeAny_mono (code_set_led1 (.ref l) (E := E) (Q₁ := fun x t => x = .ref s.heap.objs.size ∧ t = { s with heap := s.heap.push (oSet w) }) ⟨rfl, rfl⟩) fun r t hr => ?_
  cases r with
  | error e => exact hr
  | ok fl => cases fl with
    | ret x =>
      obtain ⟨rfl, rfl⟩ := hr
      have here : (s.heap.push (oSet w)).get? s.heap.objs.size = some (oSet w) := Heap.get?_push_size _ rfl
      have typ : Shared.TypeIs { s with heap := s.heap.push (oSet w) } (.ref s.heap.objs.size) "set" := ⟨_, here, rfl⟩
      have look := F.called_set.init.lookup; have bnd := F.called_set.init.bind (.ref s.heap.objs.size)
      repeat (any_goals (first | assumption | wp_step))
      refine codeAny_mono (codeAny_call_builtin (R := wants (fun r t2 => r = .none ∧ ∃ g tk c, t2 = { s with heap := g, toks := tk } ∧ SetR w g s.heap.objs.size (fun j => decide (j ∈ ns)) c ∧ c ≤ ns.length ∧ ∀ b o, s.heap.get? b = some o → g.get? b = some o) E)
        F.called_set.init.plain F.entry_set_init (check_set_init_1 typ ?_)) fun r2 t2 hr2 => ?_
      · obtain ⟨ob, hob, hc, nl, hd⟩ := isl
        obtain ⟨ocls, odict, odata, oslots⟩ := ob
        simp only at hc hd; subst hc; subst hd
        have hob2 : (s.heap.push (oSet w)).get? l = some { cls := .type "list", dict := odict, data := .seq its nl, slots := oslots } := Heap.get?_push_of_some _ hob
        have n1 := F.sub_list_set; have n2 := F.sub_list_frozenset
        have n3 : (Value.type "list" == Value.type "dict") = false := by decide
        have isl2 : (s.heap.push (oSet w)).IsList l its := ⟨_, hob2, rfl, nl, rfl⟩
        unfold Builtin.«set.__init__» noKeywords Builtin.Frozenset.updateFrom; generalize hPI : pyIter = PI; wp_walk; subst hPI
        refine wpAny_pyIter_list isl2 ?_; refine wpAny_bind (wpAny_runValue ?_)
        have lt : l < s.heap.objs.size := Heap.lt_size hob
        have nh3 : A.in1.in1.in1.handled = none := by simp [nh]
        have sz : (s.heap.push (oSet w)).objs.size = s.heap.objs.size + 1 := Heap.size_push ..
        have ne : l ≠ (s.heap.push (oSet w)).objs.size := by rw [sz]; exact Nat.ne_of_lt (Nat.lt_succ_of_lt lt)
        have out : s.heap.objs.size ∉ [(s.heap.push (oSet w)).objs.size, l] := by
          rw [sz]; intro m
          rcases List.mem_cons.mp m with m | m
          · exact Nat.ne_of_lt (Nat.lt_succ_self _) m
          · exact Nat.ne_of_gt lt (List.mem_singleton.mp m)
        have val : ∀ (i : Nat) (v : Value), its[i]? = some v → ∃ k t, ns[i]? = some k ∧ v = .int k t := fun i v hv => by
          have hi : i < ns.length := by rw [← many]; exact (Array.getElem?_eq_some_iff.mp hv).1
          obtain ⟨t, e⟩ := PyProof.Rows.IntsAre.int_at iv i v (by rw [Array.getElem?_toList]; exact hv)
          exact ⟨ns[i], t, List.getElem?_eq_getElem hi, by rw [e, List.getD_eq_getElem?_getD, List.getElem?_eq_getElem hi]; rfl⟩
        refine set_update_ints ((Walks.list nh3 _ l ne its).toS) s.heap.objs.size out ns many few val (its.size - 0) 0 _ (by omega) (Nat.zero_le _) ⟨⟨_, Heap.get?_push_size _ rfl, rfl, rfl⟩, (isl2.push _)⟩ ⟨0, Nat.le_refl 0, setR_new_at (Heap.get?_push_of_some _ here)⟩ ?_
        intro t3 c3 hm hc3 hS3
        obtain ⟨g3, gen3, dr3, tk3, os3⟩ := t3
        have eg : gen3 = s.gens := hm.gens; have ed : dr3 = s.drawn := hm.drawn; have eo : os3 = s.os := hm.os
        subst eg; subst ed; subst eo
        show wpAny _ _ _ _ _ _; refine wpAny_pure ?_; show wpAny _ _ (ret Value.none) _ _ _
        refine wpAny_pure ⟨rfl, g3, tk3, c3, rfl, hS3, by rw [← many]; exact hc3, fun b o e => ?_⟩
        have lb : b < s.heap.objs.size := Heap.lt_size e
        refine hm.heap b o (fun m => ?_) (Heap.get?_push_of_some _ (Heap.get?_push_of_some _ e))
        rcases List.mem_cons.mp m with m | m
        · exact Nat.ne_of_lt lb m
        · have m := List.mem_singleton.mp m
          rw [sz] at m
          exact Nat.ne_of_lt (Nat.lt_succ_of_lt lb) m
      · cases r2 with
        | error e => exact hr2
        | ok f2 => cases f2 with
          | ret r =>
            obtain ⟨rfl, g, tk, c, rfl, r1, r2, r3⟩ := hr2
            repeat (any_goals (first | assumption | wp_step))
            exact q _ _ _ r1 r2 r3
          | _ => exact hr2.elim
    | _ => exact hr.elim
end
section
variable {X : Cx} {a : Expr} {pos p p2 q : Pos} {w : WD}
theorem nodup_few : ∀ {l ks : List Int}, l.Nodup → (∀ x ∈ l, x ∈ ks) → l.length ≤ ks.length
  | [], _, _, _ => Nat.zero_le _
  | x :: l, ks, nd, h => by
    rw [List.nodup_cons] at nd
    have hx := h x List.mem_cons_self
    have ih := nodup_few (l := l) (ks := ks.erase x) nd.2 fun y m => by
      have ne : y ≠ x := fun e => nd.1 (by rw [← e]; exact m)
      exact (List.mem_erase_of_ne ne).mpr (h y (List.mem_cons_of_mem _ m))
    rw [List.length_erase_of_mem hx] at ih
    have : 0 < ks.length := List.length_pos_of_mem hx
    rw [List.length_cons]
    omega
theorem setR_few {w : World} {g : Heap} {a : Addr} {ns : List Int} {c : Nat} (R : SetR w g a (fun j => decide (j ∈ ns)) c) (ks : List Int) (h : ∀ j ∈ ns, j ∈ ks) : c ≤ ks.length := by
  obtain ⟨o, es, ep, t, _, _, _, _, nd, hm, _, _, sz, _⟩ := R
  have := nodup_few nd fun k m => h k (of_decide_eq_true ((hm k).mpr m))
  rw [List.length_map, Array.length_toList] at this
  omega
/-- set(xs), xs a list or a tuple of ints -/
def rSetI (K : PySem.W.Frag) (w : World) : List V → Hp → VK → Prop := fun vs H Q => ∃ (l : Addr) (ns : List Int), vs = [V.ref l] ∧ (SqL K H l (ns.map V.int) ∨ SqT K H l (ns.map V.int)) ∧ ns.length ≤ 1000 ∧
  ∀ (p : Addr) (c : Nat), H p = none → (∀ ks : List Int, (∀ j ∈ ns, j ∈ ks) → c ≤ ks.length) → Q (.ref p) (upd H p (SetO w p (fun j => decide (j ∈ ns)) c))
theorem cr_setI (hc : X.calm = true) : CallR X (.type "set") (rSetI X.K X.w) := by
  intro pins s σ H vs us Q I r h
  obtain ⟨l, ns, rfl, hq, hl, q⟩ := h
  rw [Vals.ref1 r]
  have fin : ∀ (g : Heap) (tk c : Nat), SetR X.w g s.heap.objs.size (fun j => decide (j ∈ ns)) c → c ≤ ns.length → (∀ b o, s.heap.get? b = some o → g.get? b = some o) →
      EP X pins σ Q (.ref s.heap.objs.size) { s with heap := g, toks := tk } := fun g tk c R hcn k => by
    have hn : H s.heap.objs.size = none := I.hok.fresh (Nat.le_refl _)
    have J : Inv X pins σ (upd H s.heap.objs.size (SetO X.w s.heap.objs.size (fun j => decide (j ∈ ns)) c)) { s with heap := g, toks := tk } :=
      I.call (ch := []) (Un.laid k (Nat.le_refl _) hn) (I.hok.laid k (Nat.le_refl _) ⟨R, ⟨_, R.choose_spec.choose_spec.choose_spec.choose_spec.1⟩, fun h1 h2 r k2 => SetR.at r k2⟩) I.bare (fun _ z => nomatch z)
    exact ⟨.ref s.heap.objs.size, _, J, rfl, q _ c hn (setR_few R)⟩
  rcases hq with hq | hq
  · obtain ⟨its, rv, pl, hz⟩ := I.list hq
    exact set_of_list ns (I.ok.hd hc) pl.isList (by simpa using rv.ints) (by unfold scanBound; omega) fin
  · obtain ⟨its, rv, pt, hz⟩ := I.tuple hq
    exact call_set_tupI ns (I.ok.hd hc) pt (by simpa using rv.ints) (by unfold scanBound; omega) fin
end
end DL

set_option Elab.async false
set_option linter.all false
set_option maxRecDepth 100000
set_option maxHeartbeats 4000000
/-! sorted(set(xs)) of ints, as data -/
namespace DL
open PySem PySem.Spec PyProof.Rows L2
/-- a number put into an ascending list, once -/
def insI (x : Int) : List Int → List Int
  | [] => [x]
  | y :: ys => if x < y then x :: y :: ys else if x = y then y :: ys else y :: insI x ys
def lotI : List Int → List Int
  | [] => []
  | x :: xs => insI x (lotI xs)
theorem insI_mem {x z : Int} : ∀ {ys : List Int}, z ∈ insI x ys ↔ z = x ∨ z ∈ ys
  | [] => by simp [insI]
  | y :: ys => by
    unfold insI
    split
    · simp
    · split
      · rename_i h; subst h; simp
      · simp [insI_mem (ys := ys)]; constructor
        · rintro (h | h | h) <;> simp [h]
        · rintro (h | h | h) <;> simp [h]
theorem insI_asc {x : Int} : ∀ {ys : List Int}, ys.Pairwise (· < ·) → (insI x ys).Pairwise (· < ·)
  | [], _ => List.pairwise_singleton _ _
  | y :: ys, h => by
    have h1 := List.pairwise_cons.mp h
    unfold insI
    split
    · rename_i hx
      refine List.pairwise_cons.mpr ⟨fun z m => ?_, h⟩
      rcases List.mem_cons.mp m with rfl | m
      · exact hx
      · exact Int.lt_trans hx (h1.1 z m)
    · split
      · exact h
      · rename_i h2 h3
        refine List.pairwise_cons.mpr ⟨fun z m => ?_, insI_asc h1.2⟩
        rcases insI_mem.mp m with rfl | m
        · omega
        · exact h1.1 z m
theorem lotI_mem {z : Int} : ∀ {xs : List Int}, z ∈ lotI xs ↔ z ∈ xs
  | [] => by simp [lotI]
  | x :: xs => by unfold lotI; rw [insI_mem, lotI_mem, List.mem_cons]
theorem lotI_asc : ∀ xs : List Int, (lotI xs).Pairwise (· < ·)
  | [] => .nil
  | x :: xs => insI_asc (lotI_asc xs)
/-- ascending lists with the same members are one -/
theorem asc_one : ∀ {xs ys : List Int}, xs.Pairwise (· < ·) → ys.Pairwise (· < ·) → (∀ z, z ∈ xs ↔ z ∈ ys) → xs = ys
  | [], [], _, _, _ => rfl
  | [], y :: ys, _, _, h => by have := (h y).mpr List.mem_cons_self; cases this
  | x :: xs, [], _, _, h => by have := (h x).mp List.mem_cons_self; cases this
  | x :: xs, y :: ys, h1, h2, h => by
    have a := List.pairwise_cons.mp h1
    have b := List.pairwise_cons.mp h2
    have e : x = y := by
      have m1 := (h x).mp List.mem_cons_self
      have m2 := (h y).mpr List.mem_cons_self
      rcases List.mem_cons.mp m1 with e | m1
      · exact e
      · rcases List.mem_cons.mp m2 with e | m2
        · exact e.symm
        · have := a.1 y m2; have := b.1 x m1; omega
    subst e
    rw [asc_one a.2 b.2 fun z => ⟨fun m => ?_, fun m => ?_⟩]
    · rcases List.mem_cons.mp ((h z).mp (List.mem_cons_of_mem _ m)) with e | m'
      · subst e; exact absurd (a.1 z m) (Int.lt_irrefl z)
      · exact m'
    · rcases List.mem_cons.mp ((h z).mpr (List.mem_cons_of_mem _ m)) with e | m'
      · subst e; exact absurd (b.1 z m) (Int.lt_irrefl z)
      · exact m'
theorem lotI_len : ∀ xs : List Int, (lotI xs).length ≤ xs.length
  | [] => Nat.le_refl _
  | x :: xs => by
    have : ∀ ys : List Int, (insI x ys).length ≤ ys.length + 1 := fun ys => by
      induction ys with
      | nil => exact Nat.le_refl _
      | cons y ys ih =>
        unfold insI
        split
        · simp
        · split
          · simp
          · simp only [List.length_cons]; omega
    have h1 := lotI_len xs
    have h2 := this (lotI xs)
    show (insI x (lotI xs)).length ≤ xs.length + 1
    omega
variable [Tb]
section
variable {X : Cx} {a : Expr} {pos p p2 q : Pos} {w : WD}
def dInts (d : PyData) (k : List Int → Prop) : Prop := dItems d fun ds => ∃ ns : List Int, ds = ns.map PyData.int ∧ (ns.length ≤ 1000 ∧ (lotI ns).length ≤ 60) ∧ k ns
theorem dInts_mo {d : PyData} {k k' : List Int → Prop} (h : ∀ n, k n → k' n) (q : dInts d k) : dInts d k' := dItems_mo (fun ds ⟨ns, e, l, z⟩ => ⟨ns, e, l, h _ z⟩) q
theorem evr_sortedSet (h : Ev .sh X a w) (hc : X.calm = true) (hm : X.mg "sorted" = none) (hm2 : X.mg "set" = none)
    (hg : Gl X "sorted" := by rfl) (hg2 : Gl X "set" := by rfl)
    (na : starEach [a] X.env = (false, eval a X.env) :: starEach [] X.env := by rfl)
    (nb : starEach [.Call (.Name "set" p2) [a] [] q] X.env = (false, eval (.Call (.Name "set" p2) [a] [] q) X.env) :: starEach [] X.env := by rfl) :
    EvR X (.Call (.Name "sorted" p) [.Call (.Name "set" p2) [a] [] q] [] pos) (fun sd Q => w sd fun d => dInts d fun ns => Q (.fr ((lotI ns).map PyData.int))) where
  pe := PE.weak (pe_callB (cr_sortedSet hc) hg hm (by decide +kernel) (pa_cons (pe_callTy (cr_setI hc) hg2 hm2 (by decide +kernel) (pa_cons h.pe pa_nil na) (he := na)) pa_nil nb) (he := nb)) fun σ H Q ⟨c, sd, os, hk, r, q⟩ =>
    ⟨c, sd, os, hk, r, h.mo _ _ _ (fun d kq v H1 x1 dm => by
      have r1 := r.grow x1
      have fin : ∀ (ns : List Int) (l : Addr), ns.length ≤ 1000 ∧ (lotI ns).length ≤ 60 → (∀ v H', Ext c.S H H' → RvR X.K (OO c os) H H' v (.fr ((lotI ns).map PyData.int)) → Q v H') → v = V.ref l → (SqL X.K H1 l (ns.map V.int) ∨ SqT X.K H1 l (ns.map V.int)) →
          rSetI X.K X.w [v] H1 fun x H2 => rSortedSet X.w [x] H2 Q := fun ns l hl kq e hs => by
        refine ⟨l, ns, by rw [e], hs, by omega, fun p1 cc hp hcc => ?_⟩
        refine ⟨p1, _, cc, rfl, upd_same, by have := hcc (lotI ns) (fun j m => lotI_mem.mpr m); omega, fun ms p3 asc mem len hp3 => ?_⟩
        have em : ms = lotI ns := asc_one asc (lotI_asc ns) fun z => by rw [mem, lotI_mem, decide_eq_true_eq]
        subst em
        have n13 : p3 ≠ p1 := fun z => by rw [z, upd_same] at hp3; cases hp3
        have hp3' : H1 p3 = none := by rw [upd_ne n13] at hp3; exact hp3
        have x2 : Ext c.S H1 (upd (upd H1 p1 (SetO X.w p1 (fun j => decide (j ∈ ns)) cc)) p3 (.lst ((lotI ns).map V.int))) := (Ext.of (same_new hp)).trans (Ext.of (same_new hp3))
        refine kq _ _ (x1.trans x2) (RvR.from r.sO (fun a m => r1.there m) x1 ?_)
        refine ⟨p3, _, rfl, hp3', upd_same, ?_⟩
        have : ∀ l : List Int, DxAll X.K (hid (p3 :: OO c os) (upd (upd H1 p1 (SetO X.w p1 (fun j => decide (j ∈ ns)) cc)) p3 (.lst ((lotI ns).map V.int)))) (l.map V.int) (l.map PyData.int) := fun l => by
          induction l with
          | nil => exact .nil
          | cons i l ih => exact .cons (.int _) ih
        exact this _
      unfold dInts dItems at kq
      split at kq
      · obtain ⟨ns, rfl, hl, kq⟩ := kq
        obtain ⟨l, us, rfl, h1, h2⟩ := dm
        have e := all_ints h2
        subst e
        exact fin ns l hl kq rfl (.inl (.inl (.inl (hid_some h1).2)))
      · obtain ⟨ns, rfl, hl, kq⟩ := kq
        obtain ⟨l, us, rfl, h1, h2⟩ := shTup dm
        have e := all_ints h2
        subst e
        exact fin ns l hl kq rfl (.inr (SqT.same hid_sub h1))
      · exact kq.elim) q⟩
  mo := fun sd Q Q' k q => h.mo _ _ _ (fun d z => dInts_mo (fun n y => k _ y) z) q
def intsD60 (d : PyData) : Option (List Int) := ob (itemsD d) fun ds => ob (intsOf ds) fun ns => oif (Nat.ble ns.length 1000 && Nat.ble (lotI ns).length 60) (some ns)
theorem zInts : Wy dInts intsD60 := fun d b e Q q => by
  obtain ⟨ds, h1, e⟩ := ob_get e
  obtain ⟨ns, h2, e⟩ := ob_get e
  obtain ⟨h0, e⟩ := oif_get e
  cases e
  rw [Bool.and_eq_true] at h0
  exact zItems d ds h1 _ ⟨b, intsOf_get h2, ⟨Nat.le_of_ble_eq_true h0.1, Nat.le_of_ble_eq_true h0.2⟩, q⟩
def xSortedSet (f : XE PyData) : XE RV := fun sd => ob (f sd) fun d => ob (intsD60 d) fun ns => some (.fr ((lotI ns).map PyData.int))
theorem ySortedSet {f : XE PyData} (h : Wy w f) : Wy (fun sd Q => w sd fun d => dInts d fun ns => Q (RV.fr ((lotI ns).map PyData.int))) (xSortedSet f) := fun sd b e Q q => by
  obtain ⟨d, h1, e⟩ := ob_get e
  obtain ⟨ns, h2, e⟩ := ob_get e
  cases e
  exact h sd d h1 _ (zInts d ns h2 _ q)
end
end DL

set_option Elab.async false
set_option linter.all false
set_option maxRecDepth 100000
set_option maxHeartbeats 4000000
/-! return [.. for .. in range(..)] where the element takes things out of a list of one's own -/
namespace DL
open PySem PySem.Spec PyProof.Rows L2
variable [Tb]
section
variable {X : Cx} {a e : Expr} {x : Str} {p pos cpos apos : Pos} {w : WD}
def tNu (K : PySem.W.Frag) (w : WM) : TE := fun σ H Q => ∃ (c : Cd) (sd : SD) (os : List (Option Addr)), c.K = K ∧ R c sd os σ H ∧
  w sd fun z sd' => ∀ v H1 H', R c sd' os σ H1 → (∀ b o, b ∉ c.S → some b ∉ os → H b = some o → H1 b = some o) → Ext c.S H1 H' → RvR K (OO c os) H1 H' v z → Q v H'
structure EvN (X : Cx) (e : Expr) (w : WM) : Prop where
  pe : PE X e (tNu X.K w)
  mo : ∀ sd (Q Q' : RV → SD → Prop), (∀ r s, Q r s → Q' r s) → w sd Q → w sd Q'
def popD (ds : List PyData) : PyData → Option (PyData × Nat)
  | .int k => if 0 ≤ k ∧ k < 1000000 then (match ds[k.toNat]? with
    | some d => some (d, k.toNat)
    | none => none) else none
  | _ => none
theorem popD_get {ds : List PyData} {d d1 : PyData} {n : Nat} (h : popD ds d = some (d1, n)) : ∃ k : Int, d = .int k ∧ (0 ≤ k ∧ k < 1000000) ∧ n = k.toNat ∧ ds[k.toNat]? = some d1 := by
  cases d with
  | int k =>
    by_cases hk : 0 ≤ k ∧ k < 1000000
    · have h2 : (match ds[k.toNat]? with | some d => some (d, k.toNat) | none => none) = some (d1, n) := by
        have h' : (if 0 ≤ k ∧ k < 1000000 then (match ds[k.toNat]? with | some d => some (d, k.toNat) | none => none) else none) = some (d1, n) := h
        rw [if_pos hk] at h'; exact h'
      cases g : ds[k.toNat]? with
      | none => rw [g] at h2; cases h2
      | some d2 => rw [g] at h2; cases h2; exact ⟨k, rfl, hk, rfl, g⟩
    · have h' : (if 0 ≤ k ∧ k < 1000000 then (match ds[k.toNat]? with | some d => some (d, k.toNat) | none => none) else none) = some (d1, n) := h
      rw [if_neg hk] at h'; cases h'
  | _ => cases h
def wPopAt (i : Nat) (we : WD) : WM := fun sd Q => onOw i sd fun ds => we sd fun d => onSome (popD ds d) fun r => Q (.va r.1) (sd.set i (.ow (ds.eraseIdx r.2)))
theorem DxAll.erase {K : PySem.W.Frag} {H : Hp} : ∀ {vs : List V} {ds : List PyData} (n : Nat), DxAll K H vs ds → DxAll K H (vs.eraseIdx n) (ds.eraseIdx n)
  | _, _, _, .nil => .nil
  | _, _, 0, .cons _ t => t
  | _, _, n + 1, .cons h t => .cons h (DxAll.erase n t)
theorem evn_popAt (i : Nat) (h : Ev .sh X e w) (hN : X.N[i]? = some x := by rfl)
    (hv : Vis X.env.scope x := by first | exact Or.inl rfl | exact Or.inr (Or.inl rfl) | exact Or.inr (Or.inr rfl))
    (hd : (x == ("__debug__" : Str)) = false := by decide) (hcd : (x == ("__classdict__" : Str)) = false := by decide)
    (hbase : attributeBase (.Name x p) "pop" X.env (eval (.Name x p) X.env) = eval (.Name x p) X.env := by rfl)
    (hfew : ((backTo cpos (starEach [e] X.env)).all (fun x => !x.1) && (backToKw cpos (keywordEach [] X.env)).all (fun x => x.1.isSome)
      && decide ([e].length + ([] : List Keyword).length + (if ([] : List Keyword).isEmpty then 0 else 1) < 30)) = true := by rfl)
    (hline : (apos.endLine == cpos.line) = true := by rfl) (hs : starEach [e] X.env = (false, eval e X.env) :: starEach [] X.env := by rfl)
    (hplain : (backTo cpos (starEach [] X.env)).any (·.1) = false := by rfl) :
    EvN X (.Call (.Attribute (.Name x p) "pop" apos) [e] [] cpos) (wPopAt i w) where
  pe := PE.weak (pe_bm F.plainAttrs_list F.slot_list_pop F.type_list_pop mt_popAt (pe_var hN hv hd hcd) (pa_cons h.pe pa_nil hs) hbase hfew hline hs hplain) fun σ H Q ⟨c, sd, os, hk, r, q⟩ => by
    obtain ⟨ds, es, q⟩ := onOw_get q
    obtain ⟨v, oa, h1, h2, l, xs, rfl, rfl, h3, h4, h5⟩ := r.at_ es (by intro z; cases z)
    have nS := own_notS r (List.mem_of_getElem? h2)
    refine ⟨_, h1, .inl ⟨rfl, _, .inl (.inl h3)⟩, c, sd, os, hk, r, h.mo _ _ _ (fun d kd u H1 x1 dm => ?_) q⟩
    obtain ⟨⟨d1, n⟩, e1, kd⟩ := onSome_get kd
    have r1 := r.grow x1
    have g3 := x1.st l _ nS h3
    have g4 := DxAll.grow r.sO x1 h4
    obtain ⟨k, rfl, hkk, rfl, gd⟩ := popD_get e1
    have ek := shInt dm
    obtain ⟨y, gy, dy⟩ := g4.get gd
    have lt : k.toNat < xs.length := (List.getElem?_eq_some_iff.mp gy).1
    have e62 : (2 : Int) ^ 63 = 9223372036854775808 := by decide
    refine ⟨l, xs, k, k.toNat, y, rfl, by rw [ek], g3, by omega, by omega, ?_, gy, ?_⟩
    · unfold seqIndex?
      simp only [if_neg (show ¬ k < 0 by omega)]
      rw [if_pos (by rw [decide_eq_true hkk.1, decide_eq_true (show k < (xs.length : Int) by omega)]; rfl)]
    · have hO : l ∈ OO c os := mem_OO.mpr (.inr (List.mem_of_getElem? h2))
      refine kd y _ _ (R.upd r1 h2 (g4.erase k.toNat)) (fun b o n1 n2 e => ?_) Ext.refl ?_
      · have nb : b ≠ l := fun z => n2 (by rw [z]; exact List.mem_of_getElem? h2)
        rw [upd_ne nb]; exact x1.st b o n1 e
      · show Dx X.K (hid (OO c os) _) y d1
        rw [hid_upd hO, ← hk]
        exact dy
  mo := fun sd Q Q' k q => by
    obtain ⟨ds, es, q⟩ := onOw_get q
    exact onOw_put es (h.mo _ _ _ (fun d z => onSome_mo (fun r y => k _ _ y) z) q)
def lcM (g : WG) (we : WM) (vs : List Nat) : List PyData → SD → (List PyData → Prop) → Prop
  | [], _, Q => Q []
  | d :: ds, sd, Q => g d sd fun sd2 => okVs sd2 vs = true ∧ we sd2 fun z sd3 => okVs sd3 vs = true ∧ lcM g we vs ds (wipeD sd3 vs) fun out => Q (z.dat :: out)
theorem lcM_mo {g : WG} {we : WM} {vs : List Nat} (hg : ∀ d sd (Q Q' : SD → Prop), (∀ s, Q s → Q' s) → g d sd Q → g d sd Q') (he : ∀ sd (Q Q' : RV → SD → Prop), (∀ r s, Q r s → Q' r s) → we sd Q → we sd Q') :
    ∀ (ds : List PyData) (sd : SD) (Q Q' : List PyData → Prop), (∀ r, Q r → Q' r) → lcM g we vs ds sd Q → lcM g we vs ds sd Q'
  | [], _, Q, Q', k, q => k _ q
  | d :: ds, sd, Q, Q', k, q => hg _ _ _ _ (fun s z => ⟨z.1, he _ _ _ (fun r s y => ⟨y.1, lcM_mo hg he ds _ _ _ (fun out u => k _ u) y.2⟩) z.2⟩) q
section
variable {elt tg iter : Expr} {scope : Scope} {own : List (Str × Nat)} {g : WG} {we : WM} {is vs : List Nat}
theorem lcM_run {c : Cd} {sd : SD} {os : List (Option Addr)} {σ : L2.St} {H1 : Hp} {Q : VK} {J : It} {ds : List PyData} {D : Addr} {E : RV → Prop}
    (hg : ∀ d sd (Q Q' : SD → Prop), (∀ s, Q s → Q' s) → g d sd Q → g d sd Q') (he : ∀ sd (Q Q' : RV → SD → Prop), (∀ r s, Q r s → Q' r s) → we sd Q → we sd Q')
    (hk : c.K = X.K) (r : R c sd os σ H1) (hD : H1 D = none) (hv : ∀ i ∈ vs, noOw (getS sd i) = true) (hsub : ∀ i ∈ is, i ∈ vs)
    (hJ : ∀ O H2, ItOk c.K J ds O H2) (hz : ds.length ≤ sizeLine)
    (q : lcM g we vs ds (wipeD sd vs) fun out => E (.fr out)) (hE : ∀ z v H, Ext c.S c.H0 H → RvR c.K c.Oc c.H0 H v z → E z → Q v H) :
    ∃ W : Nat → Nat → Hp → Prop, (∃ m, W 0 m (upd H1 D (.lst []))) ∧ ∀ i m H, W i m H →
      (J.stop i H ∧ Q (.ref D) H) ∨ (J.go i H ∧ ∃ Nx : Hp → Prop, (∀ H', Nx H' → ∃ m', m' < m ∧ W (i + 1) m' H') ∧ ∀ x H', J.yld i H x H' →
        tGt X.K is g x (wipe σ vs) H' fun σ2 H2 => wipe σ2 vs = wipe σ vs ∧ tYes σ2 H2 fun b H3 =>
          if b = true then tNu X.K we σ2 H3 fun y H4 => ∃ acc, H4 D = some (.lst acc) ∧ acc.length < sizeLine ∧ Nx (upd H4 D (.lst (acc ++ [y]))) else Nx H3) := by
  have nS : D ∉ c.S := fun z => r.srcNow.there D z hD
  have h0 : c.H0 D = none := by
    cases q : c.H0 D with
    | none => rfl
    | some o => rw [r.ext.st D o nS q] at hD; cases hD
  have rD := (r.hide (o := .lst []) (H' := upd H1 D (.lst [])) (Ext.of (same_new hD)) hD upd_same own_lst).wipe vs hv
  have noOs : ∀ {c : Cd} {sd : SD} {os : List (Option Addr)} {σ : L2.St} {H : Hp}, R c sd os σ H → (∀ i ∈ vs, noOw (getS sd i) = true) → ∀ i ∈ vs, ∀ b, os[i]? ≠ some (some b) := fun r hv i m b e => by
    obtain ⟨i', s0, o0, g1, g1', g2, g3, _⟩ := r.ownAt (List.mem_of_getElem? e)
    have ei := r.uniq _ _ _ g3 e
    subst ei
    have := hv i' m
    rw [getS_of g1, noOw_own g1'] at this
    cases this
  have hos0 := noOs r hv
  refine ⟨fun i m H => ∃ acc out sdk osk, H D = some (.lst acc) ∧ DxAll c.K (hid (OO { c with Oc := D :: c.Oc } osk) H) acc out ∧ R { c with Oc := D :: c.Oc } sdk osk (wipe σ vs) H ∧ (∀ i ∈ vs, ∀ b, osk[i]? ≠ some (some b)) ∧
      lcM g we vs (ds.drop i) sdk (fun rest => E (.fr (out ++ rest))) ∧ m = ds.length - i ∧ i ≤ ds.length ∧ acc.length ≤ i,
    ⟨_, [], [], wipeD sd vs, os, upd_same, .nil, rD, hos0, q, rfl, Nat.zero_le _, Nat.le_refl _⟩, ?_⟩
  rintro i m H ⟨acc, out, sdk, osk, hDa, dacc, rw', hos, q, rfl, hi, hl⟩
  have ok := hJ (OO { c with Oc := D :: c.Oc } osk) H
  by_cases hlt : i < ds.length
  · have eg := List.getElem?_eq_getElem hlt
    obtain ⟨go, yl⟩ := ok.1 i _ eg
    rw [List.drop_eq_getElem_cons hlt] at q
    refine .inr ⟨go, fun H' => ∃ acc out sdk osk, H' D = some (.lst acc) ∧ DxAll c.K (hid (OO { c with Oc := D :: c.Oc } osk) H') acc out ∧ R { c with Oc := D :: c.Oc } sdk osk (wipe σ vs) H' ∧ (∀ i ∈ vs, ∀ b, osk[i]? ≠ some (some b)) ∧
      lcM g we vs (ds.drop (i + 1)) sdk (fun rest => E (.fr (out ++ rest))) ∧ acc.length ≤ i + 1,
      fun H' ⟨acc, out, sdk, osk, e1, e2, e3, e4, e5, e6⟩ => ⟨ds.length - (i + 1), by omega, acc, out, sdk, osk, e1, e2, e3, e4, e5, rfl, hlt, e6⟩, fun x H' y => ?_⟩
    obtain ⟨rfl, dx⟩ := yl x H' y
    refine ⟨{ c with Oc := D :: c.Oc }, sdk, osk, ds[i], hk, rw', by rw [← hk]; exact dx, hg _ _ _ _ (fun s k σ2 os2 r2 b2 => ⟨?_, ?_⟩) q⟩
    · rw [wipe_but b2 hsub, wipe_idem]
    · simp only [tYes, if_true]
      have hos2 := noOs r2 (okVs_all k.1)
      refine ⟨{ c with Oc := D :: c.Oc }, s, os2, hk, r2, he _ _ _ (fun z s3 kz v H3 H4 r3 fr3 x4 rv => ?_) k.2⟩
      have a3 := fr3 D _ nS (fun z => r2.dis D z List.mem_cons_self) hDa
      have a4 := x4.st D _ nS a3
      have r4 := (r3.grow x4).wipe vs (okVs_all kz.1)
      rw [wipe_but b2 hsub, wipe_idem] at r4
      refine ⟨acc, a4, by omega, acc ++ [v], out ++ [z.dat], wipeD s3 vs, os2, upd_same, ?_, r4.updO List.mem_cons_self nS h0 own_lst, hos2, ?_, by rw [List.length_append]; show acc.length + 1 ≤ i + 1; omega⟩
      · rw [hid_upd (mem_OO.mpr (.inl List.mem_cons_self))]
        refine DxAll.app ?_ (.cons ?_ .nil)
        · refine DxAll.same (hid_same (fun b o nb e => ?_) fun b m => .inl ?_) _ _ dacc
          · have nO2 : b ∉ OO { c with Oc := D :: c.Oc } os2 := fun m => nb (by
              rcases mem_OO.mp m with m | m
              · exact mem_OO.mpr (.inl m)
              · obtain ⟨j, hj, ej⟩ := List.getElem_of_mem m
                have e1 : os2[j]? = some (some b) := by rw [List.getElem?_eq_getElem hj, ej]
                have nj : j ∉ is := fun mi => hos2 j (hsub j mi) b e1
                exact mem_OO.mpr (.inr (List.mem_of_getElem? ((b2.2 j nj).2.symm.trans e1))))
            have nS2 : b ∉ c.S := fun z => nO2 (r2.sO b z)
            exact x4.st b o nS2 (fr3 b o nS2 (fun z => nO2 (mem_OO.mpr (.inr z))) e)
          · rcases mem_OO.mp m with m | m
            · exact mem_OO.mpr (.inl m)
            · obtain ⟨j, hj, ej⟩ := List.getElem_of_mem m
              have e1 : os2[j]? = some (some b) := by rw [List.getElem?_eq_getElem hj, ej]
              have nj : j ∉ is := fun mi => hos2 j (hsub j mi) b e1
              exact mem_OO.mpr (.inr (List.mem_of_getElem? ((b2.2 j nj).2.symm.trans e1)))
        · have dz := RvR.cl rv fun b m => r3.there m
          rw [hk]; exact dz
      · refine lcM_mo hg he _ _ _ _ (fun rest k => ?_) kz.2
        rw [List.append_assoc]
        exact k
  · have e : i = ds.length := by omega
    subst e
    rw [List.drop_length] at q
    refine .inl ⟨ok.2 _ (Nat.le_refl _), ?_⟩
    have q : E (.fr (out ++ [])) := q
    rw [List.append_nil] at q
    refine hE (.fr out) (.ref D) _ rw'.ext ⟨D, acc, rfl, h0, hDa, ?_⟩ q
    exact DxAll.same (hid_same (fun _ _ _ h => h) fun a m => .inl (mem_OO.mpr (.inl m))) _ _ dacc
theorem evs_retLCM {wi : WD} {rpos pos2 : Pos} (h : Ev .sh X a wi) (ok : BlkOk X.N X.env.scope scope own) (hm : X.mg "range" = none) (hc : X.calm = true) (hN : X.N.Nodup)
    (hg : ∀ (s : Shared) (H : Hp) (C : Addr) (cl : List (Str × Addr)) (fp : List Addr), EvG (X.blk s H scope (compEnvC scope cl C X.env) fp) tg is g)
    (he : ∀ (s : Shared) (H : Hp) (C : Addr) (cl : List (Str × Addr)) (fp : List Addr), EvN (X.blk s H scope (compEnvC scope cl C X.env) fp) elt we)
    (hgl : Gl X "range" := by rfl) (hsub : ∀ i ∈ is, i ∈ own.map (·.2) := by decide)
    (h1 : starEach [a] X.env = (false, eval a X.env) :: starEach [] X.env := by rfl) (h2 : starEach [a] X.env = [(false, eval a X.env)] := by rfl)
    (hs : ∀ x, foldedSetIterable (.Call (.Name "range" p) [a] [] pos2) X.env x = pure x := by intro _; rfl) :
    EvS X (.Return (some (.ListComp elt [⟨tg, .Call (.Name "range" p) [a] [] pos2, [], 0⟩] scope pos)) rpos) (fun E sd => wi sd fun d => dInt1 d fun n =>
      (okVs sd (own.map (·.2)) = true ∧ n ≤ 1000000) ∧ lcM g we (own.map (·.2)) (rangeD 0 n.toNat) (wipeD sd (own.map (·.2))) fun out => E.rt (.fr out)) where
  ps := PS.weak (ps_ret (pe_lc hc hN (pi_range1 hgl hm (pa_cons h.pe pa_nil h1) h2) ok (fun s H C cl fp => (hg s H C cl fp).pg) (fun s H C cl fp => pts_nil) (fun s H C cl fp => (he s H C cl fp).pe) hs)) fun D σ H ⟨c, sd, os, E, hk, r, er, q⟩ => by
    refine ⟨c, sd, os, hk, r, h.mo _ _ _ (fun d kz v H1 x1 dm => ?_) q⟩
    have rr := r.grow x1
    obtain ⟨n, rfl, ⟨q1, q2⟩, ⟨k1, k2⟩, k3⟩ := dInt1_get kz
    refine ⟨n, by rw [shInt dm], q1, q2, fun D hD => lcM_run (hg X.s_0 X.H_0 0 [] []).mo (he X.s_0 X.H_0 0 [] []).mo hk rr hD (okVs_all k1) hsub (fun O H2 => by rw [hk]; exact it_r) ?_ k3 (fun z v H x rv e => er.rt z v H x rv e)⟩
    unfold rangeD
    rw [List.length_map, List.length_range, sizeLine_eq]
    omega
  mo := fun E E' sd k1 k2 _ _ q => h.mo _ _ _ (fun d z => dInt1_mo (fun ds z => ⟨z.1, lcM_mo (hg X.s_0 X.H_0 0 [] []).mo (he X.s_0 X.H_0 0 [] []).mo _ _ _ _ (fun r y => k2 _ y) z.2⟩) z) q
end
end
end DL

set_option Elab.async false
set_option linter.all false
set_option maxRecDepth 100000
set_option maxHeartbeats 4000000
/-! a, b = x, y where a name is a cell: by a tuple -/
namespace DL
open PySem PySem.Spec PyProof.Rows L2
variable [Tb]
section
variable {X : Cx} {a b e : Expr} {es : List Expr} {pos p px py pt apos cpos : Pos} {x y : Str}
theorem evs_parC {wa wb : WR} {kt k2 pt2} (i j : Nat) (ha : EvR X a wa) (hb : EvR X b wb) (hc : X.calm = true) (hN : X.N.Nodup) (hi : X.N[i]? = some x := by rfl) (hj : X.N[j]? = some y := by rfl) (hij : i ≠ j := by decide)
    (hx : Loc X.env.scope x := by first | exact Or.inl rfl | exact Or.inr rfl) (hy : Loc X.env.scope y := by first | exact Or.inl rfl | exact Or.inr rfl)
    (fx : X.fn x = true ∨ X.env.scope.names.lookup x = some .local := by first | exact .inl rfl | exact .inr rfl) (fy : X.fn y = true ∨ X.env.scope.names.lookup y = some .local := by first | exact .inl rfl | exact .inr rfl)
    (h1 : starEach [a, b] X.env = (false, eval a X.env) :: starEach [b] X.env := by rfl) (h2 : starEach [b] X.env = (false, eval b X.env) :: starEach [] X.env := by rfl)
    (g1 : (assignEach [.Name x px, .Name y py] X.env).map (·.2) = assign (.Name x px) X.env :: (assignEach [.Name y py] X.env).map (·.2) := by rfl) (g2 : (assignEach [.Name y py] X.env).map (·.2) = assign (.Name y py) X.env :: (assignEach [] X.env).map (·.2) := by rfl)
    (hn : (assignEach [.Name x px, .Name y py] X.env).length = 2 := by rfl) (hst : (assignEach [.Name x px, .Name y py] X.env).findIdx? (·.1) = none := by rfl)
    (hw : swappedStores [.Tuple [.Name x px, .Name y py] kt pt] (.Tuple [a, b] k2 pt2) X.env = pure none := by rfl)
    (hs : swapsWithSole [.Tuple [.Name x px, .Name y py] kt pt] (.Tuple [a, b] k2 pt2) pos.line X.env = pure false := by rfl)
    (ho : (assignEach [.Tuple [.Name x px, .Name y py] kt pt] X.env).map (·.2) = [assign (.Tuple [.Name x px, .Name y py] kt pt) X.env] := by rfl) :
    EvS X (.Assign [.Tuple [.Name x px, .Name y py] kt pt] (.Tuple [a, b] k2 pt2) pos) (fun E sd => wa sd fun z1 => wb sd fun z2 => E.nx ((sd.set i z1.sv).set j z2.sv)) where
  ps := PS.weak (ps_asg (pe_tup (pa_cons ha.pe (pa_cons hb.pe pa_nil h2) h1)) (pg_tup hc (pgs_cons (pg_name (i := i) hN hi hx fx) (pgs_cons (pg_name (i := j) hN hj hy fy) pgs_nil g2) g1) hn hst) hs hw ho) fun D σ H ⟨c, sd, os, E, hk, r, er, q⟩ => by
    refine ⟨c, sd, os, hk, r, ha.mo _ _ _ (fun z1 kz v1 H1 x1 rv1 => ?_) q⟩
    cases z1 with
    | va d1 =>
      have rr := (r.grow x1).more [(v1, d1)] (fun q m => by
        rw [List.mem_singleton] at m
        subst m
        rw [hk]
        exact rv1)
      refine ⟨{ c with T := [(v1, d1)] ++ c.T }, sd, os, hk, rr, hb.mo _ _ _ (fun z2 kz v2 H2 x2 rv2 => ⟨by rw [sizeLine_eq]; show 2 ≤ 16777216; decide, fun tp htp => ⟨tp, _, rfl, .inl (.inl upd_same), rfl, ?_⟩⟩) kz⟩
      have x3 : Ext c.S H2 (upd H2 tp (.tup [v1, v2])) := Ext.of (same_new htp)
      obtain ⟨os2, r2⟩ := R.set (i := j) rr x2 (show RvR c.K (OO c os) H1 H2 v2 z2 by rw [hk]; exact rv2)
      have d1' := r2.tmp (v1, d1) (List.mem_append_left _ List.mem_cons_self)
      obtain ⟨os3, r3⟩ := R.set (i := i) (z := .va d1) r2.less Ext.refl d1'
      have r4 : R c ((sd.set j z2.sv).set i (.va d1)) _ ((σ.set j (some v2)).set i (some v1)) H2 := r3
      rw [List.set_comm (l := sd) _ _ (Ne.symm hij), List.set_comm (l := σ) _ _ (Ne.symm hij)] at r4
      refine ⟨_, _, rfl, _, _, rfl, rfl, er.nx _ _ _ _ (r4.grow x3) kz⟩
    | fr d1 =>
      obtain ⟨p1, xs1, rfl, e2, e3, e4⟩ := rv1
      have np : p1 ∉ OO c os := r.newOut e2
      have h0 : c.H0 p1 = none := by
        cases q : c.H0 p1 with
        | none => rfl
        | some o =>
          by_cases z : p1 ∈ c.S
          · exact absurd e2 (r.srcNow.there p1 z)
          · rw [r.ext.st p1 o z q] at e2; cases e2
      have lz := e4.len
      have rr := (r.hide x1 e2 e3 own_lst).more (xs1.zip d1) (fun q m => by
        have := zip_of e4 q m
        rw [← hk] at this
        exact this)
      refine ⟨{ c with Oc := p1 :: c.Oc, T := xs1.zip d1 ++ c.T }, sd, os, hk, rr, hb.mo _ _ _ (fun z2 kz v2 H2 x2 rv2 => ⟨by rw [sizeLine_eq]; show 2 ≤ 16777216; decide, fun tp htp => ⟨tp, _, rfl, .inl (.inl upd_same), rfl, ?_⟩⟩) kz⟩
      have x3 : Ext c.S H2 (upd H2 tp (.tup [.ref p1, v2])) := Ext.of (same_new htp)
      obtain ⟨os2, r2⟩ := R.set (i := j) rr x2 (show RvR c.K _ H1 H2 v2 z2 by rw [hk]; exact rv2)
      have hp2 : H2 p1 = some (.lst xs1) := x2.st p1 _ (fun z => np (r.sO p1 z)) e3
      have dz := of_zip (K := c.K) (H := hid (OO { c with Oc := p1 :: c.Oc } (os.set j os2)) H2) lz fun q m => r2.tmp q (List.mem_append_left _ m)
      obtain ⟨os3, r3⟩ := R.adopt (c := c) i r2.less hp2 h0 (fun z => np (mem_OO.mpr (.inl z))) r.sin dz
      rw [List.set_comm (l := sd) _ _ (Ne.symm hij), List.set_comm (l := σ) _ _ (Ne.symm hij)] at r3
      refine ⟨_, _, rfl, _, _, rfl, rfl, er.nx _ _ _ _ (r3.grow x3) kz⟩
    | fd d1 =>
      obtain ⟨p1, o1, rfl, e2, e3, xs1, eo, e4⟩ := rv1
      have np : p1 ∉ OO c os := r.newOut e2
      have h0 : c.H0 p1 = none := by
        cases q : c.H0 p1 with
        | none => rfl
        | some o =>
          by_cases z : p1 ∈ c.S
          · exact absurd e2 (r.srcNow.there p1 z)
          · rw [r.ext.st p1 o z q] at e2; cases e2
      have lz := e4.len
      have rr := (r.hide x1 e2 e3 eo.own).more (xs1.zip (d1.map (·.2))) (fun q m => by
        have := zip_of e4 q m
        rw [← hk] at this
        exact this)
      refine ⟨{ c with Oc := p1 :: c.Oc, T := xs1.zip (d1.map (·.2)) ++ c.T }, sd, os, hk, rr, hb.mo _ _ _ (fun z2 kz v2 H2 x2 rv2 => ⟨by rw [sizeLine_eq]; show 2 ≤ 16777216; decide, fun tp htp => ⟨tp, _, rfl, .inl (.inl upd_same), rfl, ?_⟩⟩) kz⟩
      have x3 : Ext c.S H2 (upd H2 tp (.tup [.ref p1, v2])) := Ext.of (same_new htp)
      obtain ⟨os2, r2⟩ := R.set (i := j) rr x2 (show RvR c.K _ H1 H2 v2 z2 by rw [hk]; exact rv2)
      have hp2 : H2 p1 = some o1 := x2.st p1 _ (fun z => np (r.sO p1 z)) e3
      have dz := of_zip (K := c.K) (H := hid (OO { c with Oc := p1 :: c.Oc } (os.set j os2)) H2) lz fun q m => r2.tmp q (List.mem_append_left _ m)
      obtain ⟨os3, r3⟩ := R.adoptD (c := c) i r2.less hp2 h0 (fun z => np (mem_OO.mpr (.inl z))) r.sin ⟨xs1, eo, dz⟩
      rw [List.set_comm (l := sd) _ _ (Ne.symm hij), List.set_comm (l := σ) _ _ (Ne.symm hij)] at r3
      refine ⟨_, _, rfl, _, _, rfl, rfl, er.nx _ _ _ _ (r3.grow x3) kz⟩
  mo := fun E E' sd k1 _ _ _ q => ha.mo _ _ _ (fun z y => hb.mo _ _ _ (fun z2 y => k1 _ y) y) q
end
end DL

set_option Elab.async false
set_option linter.all false
set_option maxRecDepth 100000
set_option maxHeartbeats 4000000
/-! a, b = a list -/
namespace DL
open PySem PySem.Spec PyProof.Rows L2
def gtLst (n : Nat) (gs : WGs) : WG := fun d sd Q => match d with
  | .list ds => ds.length = n ∧ gs ds sd Q
  | _ => False
def xtLst (n : Nat) (f : XTs) : XT := fun d sd => match d with
  | .list ds => oif (Nat.beq ds.length n) (f ds sd)
  | _ => none
theorem ytLst {n : Nat} {gs : WGs} {f : XTs} (h : WyGs gs f) : WyG (gtLst n gs) (xtLst n f) := fun d sd s e Q q => by
  unfold xtLst at e
  split at e
  · obtain ⟨h0, e⟩ := oif_get e
    exact ⟨Nat.eq_of_beq_eq_true h0, h _ sd s e Q q⟩
  · cases e
variable [Tb]
section
variable {X : Cx} {es : List Expr} {pos : Pos}
theorem evg_lst {gs : WGs} {k n : Nat} {is : List Nat} (hc : X.calm = true) (h : EvGs X es is gs) (hn : (assignEach es X.env).length = n := by rfl) (hst : (assignEach es X.env).findIdx? (·.1) = none := by rfl) : EvG X (.Tuple es k pos) is (gtLst n gs) where
  pg := PG.weak (pg_unl hc h.pg hn hst) fun v σ H Q ⟨c, sd, os, d, hk, r, dx, q⟩ => by
    cases d with
    | list ds =>
      cases dx with
      | lst h1 h2 => exact ⟨_, _, rfl, .inl (.inl (hid_some h1).2), by rw [h2.len]; exact q.1, c, sd, os, ds, hk, r, h2, q.2⟩
    | _ => exact q.elim
  mo := fun d sd Q Q' k q => by
    cases d with
    | list ds => exact ⟨q.1, h.mo _ _ _ _ k q.2⟩
    | _ => exact q.elim
end
end DL

namespace DL
open PySem PySem.Spec PyProof.Rows L2
theorem un65 {k : Nat} {A : Around} (hr : RmG k A) : A.units + 65 < cLine := by
  have := hr.rm.un
  omega
end DL

set_option Elab.async false
set_option linter.all false
set_option maxRecDepth 100000
set_option maxHeartbeats 4000000
/-! lemmas for runs: comprehensions, indices, tables as data -/
namespace DL
open PySem PySem.Spec PyProof.Rows L2
theorem lcX_map {g : XT} {t : XE Bool} {e : XE RV} {sd : SD} (f : PyData → PyData) : ∀ (ds : List PyData), (∀ d ∈ ds, ∃ s2 z, g d sd = some s2 ∧ t s2 = some true ∧ e s2 = some z ∧ z.dat = f d) → lcX g t e sd ds = some (ds.map f)
  | [], _ => rfl
  | d :: ds, h => by
    obtain ⟨s2, z, h1, h2, h3, h4⟩ := h d List.mem_cons_self
    show ob (g d sd) _ = _
    rw [h1, ob_some, h2, ob_some]
    show ob (e s2) _ = _
    rw [h3, ob_some, lcX_map f ds fun d m => h d (List.mem_cons_of_mem _ m), ob_some, h4]
    rfl
theorem rangeD_map (n : Nat) : rangeD 0 n = (List.range n).map fun k : Nat => PyData.int (k : Int) := by
  unfold rangeD
  refine List.map_congr_left fun k _ => ?_
  rw [Int.zero_add]
/-- a comprehension over range(n) -/
theorem lcX_range {g : XT} {t : XE Bool} {e : XE RV} {sd : SD} (f : Nat → PyData) (n : Nat) (h : ∀ k, k < n → ∃ s2 z, g (.int (k : Nat)) sd = some s2 ∧ t s2 = some true ∧ e s2 = some z ∧ z.dat = f k) :
    lcX g t e sd (rangeD 0 n) = some ((List.range n).map f) := by
  rw [rangeD_map]
  have : ∀ l : List Nat, (∀ k ∈ l, k < n) → lcX g t e sd (l.map fun k : Nat => PyData.int (k : Int)) = some (l.map f) := fun l => by
    induction l with
    | nil => intro _; rfl
    | cons k l ih =>
      intro hl
      obtain ⟨s2, z, h1, h2, h3, h4⟩ := h k (hl k List.mem_cons_self)
      show ob (g (.int (k : Int)) sd) _ = _
      rw [h1, ob_some, h2, ob_some]
      show ob (e s2) _ = _
      rw [h3, ob_some, ih fun k m => hl k (List.mem_cons_of_mem _ m), ob_some, h4]
      rfl
  exact this _ fun k m => List.mem_range.mp m
/-- a comprehension with a test over range(n) -/
theorem lcX_rangeF {g : XT} {t : XE Bool} {e : XE RV} {sd : SD} (c : Nat → Bool) (f : Nat → PyData) (n : Nat) (h : ∀ k, k < n → ∃ s2, g (.int (k : Nat)) sd = some s2 ∧ t s2 = some (c k) ∧ (c k = true → ∃ z, e s2 = some z ∧ z.dat = f k)) :
    lcX g t e sd (rangeD 0 n) = some (((List.range n).filter c).map f) := by
  rw [rangeD_map]
  have : ∀ l : List Nat, (∀ k ∈ l, k < n) → lcX g t e sd (l.map fun k : Nat => PyData.int (k : Int)) = some ((l.filter c).map f) := fun l => by
    induction l with
    | nil => intro _; rfl
    | cons k l ih =>
      intro hl
      obtain ⟨s2, h1, h2, h3⟩ := h k (hl k List.mem_cons_self)
      have ih := ih fun k m => hl k (List.mem_cons_of_mem _ m)
      show ob (g (.int (k : Int)) sd) _ = _
      rw [h1, ob_some, h2, ob_some]
      cases hc : c k with
      | true =>
        obtain ⟨z, h4, h5⟩ := h3 hc
        show ob (e s2) _ = _
        rw [h4, ob_some, ih, ob_some, h5, List.filter_cons, if_pos hc]
        rfl
      | false =>
        show lcX g t e sd (l.map fun k : Nat => PyData.int (k : Int)) = _
        rw [ih, List.filter_cons, if_neg (by rw [hc]; exact Bool.false_ne_true)]
  exact this _ fun k m => List.mem_range.mp m
theorem lcX_rangeV {g : XT} {t : XE Bool} {e : XE RV} {sd : SD} (f : Nat → PyData) (n : Nat) (h : ∀ k, k < n → ∃ s2, g (.int (k : Nat)) sd = some s2 ∧ t s2 = some true ∧ e s2 = some (.va (f k))) :
    lcX g t e sd (rangeD 0 n) = some ((List.range n).map f) := lcX_range f n fun k hk => by
  obtain ⟨s2, h1, h2, h3⟩ := h k hk
  exact ⟨s2, _, h1, h2, h3, rfl⟩
theorem lcX_mapV {α : Type} {g : XT} {t : XE Bool} {e : XE RV} {sd : SD} (to f : α → PyData) : ∀ (xs : List α), (∀ x ∈ xs, ∃ s2, g (to x) sd = some s2 ∧ t s2 = some true ∧ e s2 = some (.va (f x))) → lcX g t e sd (xs.map to) = some (xs.map f)
  | [], _ => rfl
  | x :: xs, h => by
    obtain ⟨s2, h1, h2, h3⟩ := h x List.mem_cons_self
    show ob (g (to x) sd) _ = _
    rw [h1, ob_some, h2, ob_some]
    show ob (e s2) _ = _
    rw [h3, ob_some, lcX_mapV to f xs fun d m => h d (List.mem_cons_of_mem _ m), ob_some]
    rfl
theorem int1D_nat {n : Nat} (h : n ≤ 1000000) : int1D (.int (n : Nat)) = some (n : Int) := by
  show oif (Nat.ble (n : Int).natAbs 4611686018427387903) (some (n : Int)) = _
  rw [Nat.ble_eq_true_of_le (by omega)]; rfl
theorem atI_nat {α : Type} (xs : List α) (k : Nat) : L2.atI xs (k : Int) = xs[k]? := by
  unfold L2.atI ixN
  rw [if_pos (by omega)]
  by_cases h : (k : Int) < xs.length
  · rw [if_pos h]
    show xs[(k : Int).toNat]? = _
    rw [Int.toNat_natCast]
  · rw [if_neg h]
    show none = _
    rw [List.getElem?_eq_none (by omega)]
end DL

set_option Elab.async false
set_option linter.all false
set_option maxRecDepth 100000
set_option maxHeartbeats 4000000
/-! tables of answers, as data -/
namespace DL
open PySem PySem.Spec PyProof.Rows L2
def iD (k : Nat) : PyData := .int (k : Int)
def nsD (ns : List Nat) : PyData := .tuple (ns.map iD)
structure Ta where
  b : List (List Nat)
  r : List Nat
  l : List Nat
  m : List Nat
deriving DecidableEq
def Ta.toD (t : Ta) : PyData := .tuple [.tuple (t.b.map nsD), nsD t.r, nsD t.l, nsD t.m]
def rowOk (k n : Nat) (xs : List Nat) : Bool := Nat.beq xs.length k && xs.all fun x => Nat.blt x n
/-- a table of n answers -/
def Ta.okB (t : Ta) (n : Nat) : Bool := Nat.ble 1 n && Nat.ble n 6 && Nat.beq t.b.length n && t.b.all (rowOk n n) && rowOk n n t.r && rowOk n n t.l && rowOk (2 ^ n - 1) n t.m
structure Ta.Ok (t : Ta) (n : Nat) : Prop where
  n1 : 1 ≤ n
  n6 : n ≤ 6
  bl : t.b.length = n
  bb : ∀ row ∈ t.b, row.length = n ∧ ∀ x ∈ row, x < n
  rr : t.r.length = n ∧ ∀ x ∈ t.r, x < n
  ll : t.l.length = n ∧ ∀ x ∈ t.l, x < n
  mm : t.m.length = 2 ^ n - 1 ∧ ∀ x ∈ t.m, x < n
theorem rowOk_iff {k n : Nat} {xs : List Nat} : rowOk k n xs = true ↔ xs.length = k ∧ ∀ x ∈ xs, x < n := by
  unfold rowOk
  rw [Bool.and_eq_true, List.all_eq_true]
  constructor
  · rintro ⟨h1, h2⟩
    exact ⟨Nat.eq_of_beq_eq_true h1, fun x m => by have := h2 x m; exact Nat.le_of_ble_eq_true this⟩
  · rintro ⟨h1, h2⟩
    exact ⟨by rw [h1]; exact Nat.beq_refl k, fun x m => Nat.ble_eq_true_of_le (h2 x m)⟩
theorem Ta.ok_of {t : Ta} {n : Nat} (h : t.okB n = true) : t.Ok n := by
  unfold Ta.okB at h
  simp only [Bool.and_eq_true] at h
  obtain ⟨⟨⟨⟨⟨⟨h1, h2⟩, h3⟩, h4⟩, h5⟩, h6⟩, h7⟩ := h
  exact ⟨Nat.le_of_ble_eq_true h1, Nat.le_of_ble_eq_true h2, Nat.eq_of_beq_eq_true h3, fun row m => rowOk_iff.mp (List.all_eq_true.mp h4 row m), rowOk_iff.mp h5, rowOk_iff.mp h6, rowOk_iff.mp h7⟩
def natOf : PyData → Option Nat
  | .int i => if 0 ≤ i then some i.toNat else none
  | _ => none
theorem natOf_get {d : PyData} {n : Nat} (h : natOf d = some n) : d = iD n := by
  cases d with
  | int i =>
    by_cases hi : 0 ≤ i
    · have h : (if 0 ≤ i then some i.toNat else none) = some n := h
      rw [if_pos hi] at h
      cases h
      unfold iD
      rw [Int.toNat_of_nonneg hi]
    · have h : (if 0 ≤ i then some i.toNat else none) = some n := h
      rw [if_neg hi] at h; cases h
  | _ => cases h
def allOf {α : Type} (f : PyData → Option α) : List PyData → Option (List α)
  | [] => some []
  | d :: ds => ob (f d) fun x => ob (allOf f ds) fun xs => some (x :: xs)
theorem allOf_get {α : Type} {f : PyData → Option α} {g : α → PyData} (h : ∀ {d x}, f d = some x → d = g x) : ∀ {ds : List PyData} {xs : List α}, allOf f ds = some xs → ds = xs.map g
  | [], _, e => by cases e; rfl
  | d :: ds, _, e => by
    obtain ⟨x, h1, e⟩ := ob_get (show ob (f d) _ = _ from e)
    obtain ⟨xs, h2, e⟩ := ob_get e
    cases e
    rw [h h1, allOf_get h h2]; rfl
def natsOf : PyData → Option (List Nat)
  | .tuple ds => allOf natOf ds
  | _ => none
theorem natsOf_get {d : PyData} {ns : List Nat} (h : natsOf d = some ns) : d = nsD ns := by
  cases d with
  | tuple ds => exact congrArg PyData.tuple (allOf_get (fun e => natOf_get e) (show allOf natOf ds = some ns from h))
  | _ => cases h
def taOf : PyData → Option Ta
  | .tuple [.tuple b, r, l, m] => ob (allOf natsOf b) fun b => ob (natsOf r) fun r => ob (natsOf l) fun l => ob (natsOf m) fun m => some ⟨b, r, l, m⟩
  | _ => none
theorem taOf_get {d : PyData} {t : Ta} (h : taOf d = some t) : d = t.toD := by
  unfold taOf at h
  split at h
  · obtain ⟨b, h1, h⟩ := ob_get h
    obtain ⟨r, h2, h⟩ := ob_get h
    obtain ⟨l, h3, h⟩ := ob_get h
    obtain ⟨m, h4, h⟩ := ob_get h
    cases h
    rw [natsOf_get h2, natsOf_get h3, natsOf_get h4, allOf_get (fun e => natsOf_get e) h1]; rfl
  · cases h
end DL

set_option Elab.async false
set_option linter.all false
set_option maxRecDepth 100000
set_option maxHeartbeats 4000000
/-! small steps of runs -/
namespace DL
open PySem PySem.Spec PyProof.Rows L2
theorem nthD_eq : ∀ (ds : List PyData) (n : Nat), nthD ds n = ds[n]?
  | [], n => by simp [nthD]
  | d :: ds, 0 => by simp [nthD]
  | d :: ds, n + 1 => by simp [nthD, nthD_eq ds n]
/-- the number at a place -/
def nat (xs : List Nat) (k : Nat) : Nat := xs.getD k 0
def row (b : List (List Nat)) (k : Nat) : List Nat := b.getD k []
theorem nat_mem {xs : List Nat} {k n m : Nat} (h : xs.length = m ∧ ∀ x ∈ xs, x < n) (hk : k < m) : xs[k]? = some (nat xs k) ∧ nat xs k < n := by
  have hl : k < xs.length := by omega
  unfold nat
  rw [List.getD_eq_getElem?_getD, List.getElem?_eq_getElem hl]
  exact ⟨rfl, h.2 _ (List.getElem_mem hl)⟩
theorem row_mem {t : Ta} {n k : Nat} (h : t.Ok n) (hk : k < n) : t.b[k]? = some (row t.b k) ∧ (row t.b k).length = n ∧ ∀ x ∈ row t.b k, x < n := by
  have hl : k < t.b.length := by rw [h.bl]; exact hk
  unfold row
  rw [List.getD_eq_getElem?_getD, List.getElem?_eq_getElem hl]
  exact ⟨rfl, h.bb _ (List.getElem_mem hl)⟩
theorem gIx_ns {xs : List Nat} {k n m : Nat} (h : xs.length = m ∧ ∀ x ∈ xs, x < n) (hk : k < m) : gIx (nsD xs) (iD k) = some (.va (iD (nat xs k))) := by
  show ob (L2.atI (xs.map iD) (k : Int)) _ = _
  rw [atI_nat, List.getElem?_map, (nat_mem h hk).1]; rfl
theorem gIx_b {t : Ta} {n k : Nat} (h : t.Ok n) (hk : k < n) : gIx (.tuple (t.b.map nsD)) (iD k) = some (.va (nsD (row t.b k))) := by
  show ob (L2.atI (t.b.map nsD) (k : Int)) _ = _
  rw [atI_nat, List.getElem?_map, (row_mem h hk).1]; rfl
theorem gLen_ns (xs : List Nat) : gLen (nsD xs) = some (.va (iD xs.length)) := by
  show some (RV.va (.int ((xs.map iD).length : Nat))) = _
  rw [List.length_map]; rfl
theorem lenOk_of {ds : List PyData} (h : ds.length ≤ 1000000) : lenOk ds = true := by
  unfold lenOk
  rw [sizeLine_eq]
  exact Nat.ble_eq_true_of_le (by omega)
/-- the answer of two -/
def Ta.bo (t : Ta) (s u : Nat) : Nat := nat (row t.b s) u
theorem Ta.bo_lt {t : Ta} {n s u : Nat} (h : t.Ok n) (hs : s < n) (hu : u < n) : t.bo s u < n := (nat_mem (row_mem h hs).2 hu).2
/-- the table with other sides -/
def Ta.turn (t : Ta) : Ta := ⟨(List.range t.r.length).map fun s => (List.range t.r.length).map fun u => t.bo u s, t.l, t.r, t.m⟩
theorem range_row {n : Nat} {f : Nat → Nat} (h : ∀ k, k < n → f k < n) : ((List.range n).map f).length = n ∧ ∀ x ∈ (List.range n).map f, x < n := by
  refine ⟨by rw [List.length_map, List.length_range], fun x m => ?_⟩
  obtain ⟨k, hk, rfl⟩ := List.mem_map.mp m
  exact h k (List.mem_range.mp hk)
theorem Ta.turn_ok {t : Ta} {n : Nat} (h : t.Ok n) : t.turn.Ok n := by
  have e : t.r.length = n := h.rr.1
  unfold Ta.turn
  rw [e]
  refine ⟨h.n1, h.n6, by simp, fun row m => ?_, h.ll, h.rr, h.mm⟩
  obtain ⟨s, hs, rfl⟩ := List.mem_map.mp m
  exact range_row fun k hk => Ta.bo_lt h hk (List.mem_range.mp hs)
end DL

set_option Elab.async false
set_option linter.all false
set_option maxRecDepth 100000
set_option maxHeartbeats 4000000
/-! what runs tell, step by step: one rule for each combinator, from the outcomes of its parts -/
namespace DL
open PySem PySem.Spec PyProof.Rows L2
section
variable {sd s1 : SD} {f f1 f2 fa fb fc : XE PyData} {r r1 : XE RV} {d d1 d2 e : PyData} {z z1 z2 : RV} {ds es zs out : List PyData} {b : Bool} {i j k n : Nat}
theorem eob {α β : Type} {o : Option α} {k : α → Option β} {a : α} {b : β} (h : o = some a) (q : k a = some b) : ob o k = some b := by rw [h]; exact q
theorem eoif {α : Type} {c : Bool} {a : Option α} {b : α} (h : c = true) (q : a = some b) : oif c a = some b := by rw [h]; exact q
theorem eva (h : f sd = some d) : xva f sd = some (.va d) := eob h rfl
theorem eclV (h : r sd = some (.va d)) : xcl r sd = some d := eob h rfl
theorem eclF (h : r sd = some (.fr ds)) : xcl r sd = some (.list ds) := eob h rfl
theorem ecl (h : r sd = some z) (q : z.dat = d) : xcl r sd = some d := eob h (by rw [q])
theorem e2 {g : X2} (h : fa sd = some d) (h2 : fb sd = some e) (q : g d e = some z) : x2 g fa fb sd = some z := eob h (eob h2 q)
theorem eBo (h : r sd = some (.va (.bool b))) : xBo r sd = some b := eob h rfl
theorem eTru (h : f sd = some d) (q : truD d = some b) : xTru f sd = some b := eob h q
theorem eAndT {t u : XE Bool} (h : t sd = some true) (q : u sd = some b) : xAnd t u sd = some b := eob h q
theorem eAndF {t u : XE Bool} (h : t sd = some false) : xAnd t u sd = some false := eob h rfl
theorem eOrT {t u : XE Bool} (h : t sd = some true) : xOr t u sd = some true := eob h rfl
theorem eOrF {t u : XE Bool} (h : t sd = some false) (q : u sd = some b) : xOr t u sd = some b := eob h q
theorem eNot {t : XE Bool} (h : t sd = some b) : xNot t sd = some (!b) := eob h rfl
theorem eNotV (h : r sd = some (.va (.bool b))) : xNotV r sd = some (.va (.bool (!b))) := eob h rfl
theorem eAndVT (h : r sd = some (.va (.bool true))) (q : r1 sd = some z) : xAndV r r1 sd = some z := eob h q
theorem eAndVF (h : r sd = some (.va (.bool false))) : xAndV r r1 sd = some (.va (.bool false)) := eob h rfl
theorem eIfT {α : Type} {t : XE Bool} {u v : XE α} {x : α} (h : t sd = some true) (q : u sd = some x) : xIf t u v sd = some x := eob h q
theorem eIfF {α : Type} {t : XE Bool} {u v : XE α} {x : α} (h : t sd = some false) (q : v sd = some x) : xIf t u v sd = some x := eob h q
theorem eIs {p : PyData → Bool} (h : f sd = some d) : xIs p f sd = some (.va (.bool (p d))) := eob h rfl
theorem eIsN {neg : Bool} (h : f sd = some d) : xIsN f neg sd = some (.va (.bool (if neg then !isNon d else isNon d))) := eob h rfl
theorem eIxC (h : f sd = some d) (q : gIxC n d = some z) : xIxC n f sd = some z := eob h q
theorem ePart {i : Int} (h : f sd = some (.int i)) : xPart f sd = some (some i) := eob h rfl
theorem eSl {fl fh : XE (Option Int)} {l h : Option Int} (h1 : f sd = some d) (h2 : fl sd = some l) (h3 : fh sd = some h) (q : gSl d l h = some z) : xSl f fl fh sd = some z := eob h1 (eob h2 (eob h3 q))
theorem eBack (h : f sd = some d) (q : gBack d = some z) : xBack f sd = some z := eob h q
theorem eTup {fs : XE (List PyData)} (h : fs sd = some ds) (q : lenOk ds = true) : xTup fs sd = some (.va (.tuple ds)) := eob h (eoif q rfl)
theorem eLst {fs : XE (List PyData)} (h : fs sd = some ds) (q : lenOk ds = true) : xLst fs sd = some (.fr ds) := eob h (eoif q rfl)
theorem eNil : xNil sd = some [] := rfl
theorem eCons {fs : XE (List PyData)} (h : f sd = some d) (q : fs sd = some ds) : xCons f fs sd = some (d :: ds) := eob h (eob q rfl)
theorem eStar {fs : XE (List PyData)} (h : f sd = some d) (h2 : itemsD d = some zs) (q : fs sd = some ds) : xStar f fs sd = some (zs ++ ds) := eob h (eob h2 (eob q rfl))
theorem eaNil : xaNil sd = some [] := rfl
theorem eaCons {fs : XE (List AV)} {as : List AV} (h : f sd = some d) (q : fs sd = some as) : xaCons f fs sd = some (.va d :: as) := eob h (eob q rfl)
theorem eCall {g : List AV → Option RV} {fs : XE (List AV)} {as : List AV} (h : fs sd = some as) (hl : Nat.beq as.length n = true) (q : g as = some z) : xCall n g fs sd = some z := eob h (eoif hl q)
theorem eCallB {g : List AV → Option RV} {fs : XE (List AV)} {as : List AV} (h : fs sd = some as) (hl : Nat.beq as.length n = true) (q : g as = some z) (q2 : z.noL = true) : xCallB n g fs sd = some z := eob h (eoif hl (eob q (eoif q2 rfl)))
theorem eBlt {g : List PyData → Option RV} {fs : XE (List PyData)} (h : fs sd = some ds) (q : g ds = some z) : xBlt g fs sd = some z := eob h q
theorem eIndex (h : f sd = some (.list ds)) (h2 : fb sd = some e) (q : (flatD e && ds.all flatD) = true) (q2 : firstAt e ds 0 = some k) : xIndex f fb sd = some (.va (.int (k : Nat))) := eob h (eob h2 (eoif q (eob q2 rfl)))
theorem eListRg (h : f sd = some d) {n : Int} (q : rngD d = some n) : xListRg f sd = some (.fr (rangeD 0 n.toNat)) := eob h (eob q rfl)
theorem eTupRg (h : f sd = some d) {n : Int} (q : rngD d = some n) : xTupRg f sd = some (.va (.tuple (rangeD 0 n.toNat))) := eob h (eob q rfl)
theorem eSortedSet {ns : List Int} (h : f sd = some d) (q : intsD60 d = some ns) : xSortedSet f sd = some (.fr ((lotI ns).map PyData.int)) := eob h (eob q rfl)
theorem eLc {vs : List Nat} {g : XT} {t : XE Bool} (h : f sd = some d) (h2 : itemsD d = some ds) (h3 : (okVs sd vs && lenOk ds) = true) (q : lcX g t r (wipeD sd vs) ds = some out) : xLc vs f g t r sd = some (.fr out) := eob h (eob h2 (eoif h3 (eob q rfl)))
theorem eLcR {vs : List Nat} {g : XT} {t : XE Bool} (h : f sd = some (iD n)) (h2 : n ≤ 1000000) (h3 : okVs sd vs = true) (q : lcX g t r (wipeD sd vs) (rangeD 0 n) = some out) : xLcR vs f g t r sd = some (.fr out) :=
  eob h (eob (int1D_nat h2) (eoif (by rw [h3, Nat.ble_eq_true_of_le (by omega)]; rfl) (eob (by rw [Int.toNat_natCast]; exact q) rfl)))
/-! ### statements -/
variable {p p1 : XS} {fl : Fl} {s : SD}
theorem eSeq (h : p sd = some (.nx s)) (q : p1 s = some fl) : xSeq p p1 sd = some fl := eob h q
theorem eSeqR (h : p sd = some (.rt z)) : xSeq p p1 sd = some (.rt z) := eob h rfl
theorem eFrzB (q : p (frzD i sd) = some fl) : xFrzB i p sd = some fl := q
theorem eRet (h : r sd = some z) : xRet r sd = some (.rt z) := eob h rfl
theorem eIfST {t : XE Bool} (h : t sd = some true) (q : p sd = some fl) : xIfS t p p1 sd = some fl := eob h q
theorem eIfSF {t : XE Bool} (h : t sd = some false) (q : p1 sd = some fl) : xIfS t p p1 sd = some fl := eob h q
theorem eSet (h : r sd = some z) : xSet i r sd = some (.nx (sd.set i z.sv)) := eob h rfl
theorem eDrop (h : r sd = some z) : xDrop r sd = some (.nx sd) := eob h rfl
theorem eSetM {m : XM} (h : m sd = some (z, s)) : xSetM i m sd = some (.nx (s.set i z.sv)) := eob h rfl
theorem ePar (h : r sd = some z1) (h2 : r1 sd = some z2) : xPar i j r r1 sd = some (.nx ((sd.set i z1.sv).set j z2.sv)) := eob h (eob h2 rfl)
theorem eAsg {m : XM} {g : XT} (h : m sd = some (z, s)) (q : g z.dat s = some s1) : xAsg m g sd = some (.nx s1) := eob h (eob q rfl)
theorem em (h : r sd = some z) : xm r sd = some (z, sd) := eob h rfl
theorem eFor {m : XM} {g : XT} (h : m sd = some (z, s)) (h2 : itemsD z.dat = some ds) (q : forX g p ds s = some fl) : xFor m g p sd = some fl := eob h (eob h2 q)
theorem eForR {g : XT} (h : f sd = some (iD n)) (h2 : n ≤ 1000000) (q : forX g p (rangeD 0 n) sd = some fl) : xForR f g p sd = some fl := eob h (eob (int1D_nat h2) (by rw [Int.toNat_natCast]; exact q))
theorem eAppend (g : getS sd i = .ow ds) (h : r sd = some z) (q : ds.length < 1000000) : xAppend i r sd = some (.nx (sd.set i (.ow (ds ++ [z.dat])))) := by
  unfold xAppend
  rw [g]
  exact eob h (eoif (Nat.ble_eq_true_of_le (by rw [sizeLine_eq]; omega)) rfl)
theorem eRunR {as : List AV} (h : p (startD n as) = some (.rt z)) : runX p n as = some z := eob h rfl
theorem eRunN {as : List AV} (h : p (startD n as) = some (.nx s)) : runX p n as = some (.va .none) := eob h rfl
end
end DL

set_option Elab.async false
set_option linter.all false
set_option maxRecDepth 100000
set_option maxHeartbeats 4000000
/-! lots and their numbers; tables renamed and beside one another -/
namespace DL
open PySem PySem.Spec PyProof.Rows L2
def lotN (xs : List Nat) : List Nat := (List.range 36).filter fun k => xs.contains k
def numN (lot : List Nat) : Nat := (lot.map fun s => 2 ^ s).sum
theorem contains_iff {xs : List Nat} {k : Nat} : xs.contains k = true ↔ k ∈ xs := by simp
theorem filter_range_lt (c : Nat → Bool) : ∀ n : Nat, (((List.range n).filter c).map fun s => 2 ^ s).sum < 2 ^ n
  | 0 => by simp
  | n + 1 => by
    have h := filter_range_lt c n
    rw [List.range_succ, List.filter_append, List.map_append, List.sum_append]
    have : (((List.filter c [n]).map fun s => 2 ^ s).sum) ≤ 2 ^ n := by
      cases hc : c n <;> simp [List.filter, hc]
    have e : 2 ^ (n + 1) = 2 ^ n + 2 ^ n := by rw [Nat.pow_succ]; omega
    omega
theorem filter_range_le (c : Nat → Bool) {n : Nat} (h : ∀ k, c k = true → k < n) : ∀ m : Nat, (List.range (n + m)).filter c = (List.range n).filter c
  | 0 => rfl
  | m + 1 => by
    rw [← Nat.add_assoc, List.range_succ, List.filter_append, filter_range_le c h m]
    have : c (n + m) = false := by
      cases e : c (n + m) with
      | false => rfl
      | true => have := h _ e; omega
    simp [List.filter, this]
theorem lotN_eq {xs : List Nat} {n : Nat} (hn : n ≤ 36) (h : ∀ x ∈ xs, x < n) : lotN xs = (List.range n).filter fun k => xs.contains k := by
  have := filter_range_le (fun k => xs.contains k) (n := n) (fun k hk => h k (contains_iff.mp hk)) (36 - n)
  rw [show n + (36 - n) = 36 by omega] at this
  exact this
theorem lotN_mem {xs : List Nat} {n : Nat} (hn : n ≤ 36) (h : ∀ x ∈ xs, x < n) {k : Nat} : k ∈ lotN xs ↔ k ∈ xs := by
  rw [lotN_eq hn h, List.mem_filter, List.mem_range, contains_iff]
  exact ⟨fun q => q.2, fun q => ⟨h k q, q⟩⟩
theorem lotN_asc (xs : List Nat) : (lotN xs).Pairwise (· < ·) := List.Pairwise.filter _ List.pairwise_lt_range
theorem numN_lt {xs : List Nat} {n : Nat} (hn : n ≤ 36) (h : ∀ x ∈ xs, x < n) : numN (lotN xs) < 2 ^ n := by
  rw [lotN_eq hn h]
  exact filter_range_lt _ n
theorem numN_pos {lot : List Nat} (h : lot ≠ []) : 1 ≤ numN lot := by
  cases lot with
  | nil => exact absurd rfl h
  | cons s l =>
    unfold numN
    rw [List.map_cons, List.sum_cons]
    have : 1 ≤ 2 ^ s := Nat.one_le_two_pow
    omega
theorem lotN_ne {xs : List Nat} {n : Nat} (hn : n ≤ 36) (h : ∀ x ∈ xs, x < n) (hx : xs ≠ []) : lotN xs ≠ [] := by
  cases xs with
  | nil => exact absurd rfl hx
  | cons x xs =>
    intro e
    have := (lotN_mem hn h (k := x)).mpr List.mem_cons_self
    rw [e] at this
    cases this
/-- what mixed has for answers -/
def Ta.mx (t : Ta) (xs : List Nat) : Nat := nat t.m (numN (lotN xs) - 1)
theorem Ta.mx_lt {t : Ta} {n : Nat} {xs : List Nat} (h : t.Ok n) (hx : ∀ x ∈ xs, x < n) (h0 : xs ≠ []) : numN (lotN xs) - 1 < 2 ^ n - 1 ∧ t.mx xs < n := by
  have h36 : n ≤ 36 := by have := h.n6; omega
  have h1 := numN_lt h36 hx
  have h2 := numN_pos (lotN_ne h36 hx h0)
  have h3 : numN (lotN xs) - 1 < 2 ^ n - 1 := by omega
  exact ⟨h3, (nat_mem h.mm h3).2⟩
theorem asc_nat {xs ys : List Nat} (h1 : xs.Pairwise (· < ·)) (h2 : ys.Pairwise (· < ·)) (h : ∀ z, z ∈ xs ↔ z ∈ ys) : xs = ys := by
  have m : ∀ {l : List Nat}, l.Pairwise (· < ·) → (l.map (Int.ofNat ·)).Pairwise (· < ·) := fun h => List.pairwise_map.mpr (h.imp fun q => Int.ofNat_lt.mpr q)
  have e := asc_one (m h1) (m h2) fun z => by
    simp only [List.mem_map]
    exact ⟨fun ⟨a, ha, e⟩ => ⟨a, (h a).mp ha, e⟩, fun ⟨a, ha, e⟩ => ⟨a, (h a).mpr ha, e⟩⟩
  exact (List.map_inj_right (fun _ _ => Int.ofNat.inj)).mp e
theorem lotI_lotN {xs : List Nat} {n : Nat} (hn : n ≤ 36) (h : ∀ x ∈ xs, x < n) : lotI (xs.map fun k : Nat => (k : Int)) = (lotN xs).map fun k : Nat => (k : Int) := by
  refine asc_one (lotI_asc _) (List.pairwise_map.mpr ((lotN_asc xs).imp fun q => Int.ofNat_lt.mpr q)) fun z => ?_
  rw [lotI_mem]
  simp only [List.mem_map]
  exact ⟨fun ⟨a, ha, e⟩ => ⟨a, (lotN_mem hn h).mpr ha, e⟩, fun ⟨a, ha, e⟩ => ⟨a, (lotN_mem hn h).mp ha, e⟩⟩
theorem intsOf_iD (xs : List Nat) : intsOf (xs.map iD) = some (xs.map fun k : Nat => (k : Int)) := by
  have : xs.map iD = (xs.map fun k : Nat => (k : Int)).map PyData.int := by rw [List.map_map]; rfl
  rw [this, intsOf_map]
theorem sum_int (xs : List Nat) : (xs.map fun k : Nat => (k : Int)).sum = ((xs.sum : Nat) : Int) := by
  induction xs with
  | nil => rfl
  | cons x xs ih => rw [List.map_cons, List.sum_cons, ih, List.sum_cons]; omega
theorem gSum_ns (xs : List Nat) : gSum (.list (xs.map iD)) = some (.va (iD xs.sum)) := by
  show ob (intsOf (xs.map iD)) _ = _
  rw [intsOf_iD, ob_some, sum_int]; rfl
theorem map_ints (xs : List Nat) : (xs.map fun k : Nat => (k : Int)).map PyData.int = xs.map iD := by rw [List.map_map]; rfl
theorem flat_ns (xs : List Nat) : (xs.map iD).all flatD = true := by
  rw [List.all_eq_true]
  intro d m
  obtain ⟨k, _, rfl⟩ := List.mem_map.mp m
  rfl
theorem eqv_iD (j k : Nat) : PyData.eqv (iD j) (iD k) = (j == k) := by
  show ((j : Int) == (k : Int)) = _
  by_cases h : j = k
  · subst h; rw [beq_self_eq_true, beq_self_eq_true]
  · rw [beq_eq_false_iff_ne.mpr h, beq_eq_false_iff_ne.mpr (show (j : Int) ≠ k by omega)]
theorem any_ns (xs : List Nat) (k : Nat) : ((xs.map iD).any fun y => y.eqv (iD k)) = xs.contains k := by
  induction xs with
  | nil => rfl
  | cons x xs ih =>
    rw [List.map_cons, List.any_cons, ih, List.contains_cons, eqv_iD]
    congr 1
    by_cases h : x = k
    · subst h; rw [beq_self_eq_true]
    · rw [beq_eq_false_iff_ne.mpr h, beq_eq_false_iff_ne.mpr (Ne.symm h)]
theorem gIn_ns (neg : Bool) (xs : List Nat) (k : Nat) : gIn neg (iD k) (.tuple (xs.map iD)) = some (.va (.bool (if neg then !xs.contains k else xs.contains k))) ∧ gIn neg (iD k) (.list (xs.map iD)) = some (.va (.bool (if neg then !xs.contains k else xs.contains k))) := by
  have h : (flatD (iD k) && (xs.map iD).all flatD) = true := by rw [flat_ns]; rfl
  constructor
  · show oif (flatD (iD k) && (xs.map iD).all flatD) _ = _
    rw [h, any_ns]; rfl
  · show oif (flatD (iD k) && (xs.map iD).all flatD) _ = _
    rw [h, any_ns]; rfl
/-! ### all lots -/
def lotsA : Nat → List (List Nat)
  | 0 => [[]]
  | n + 1 => lotsA n ++ (lotsA n).map fun l => l ++ [n]
def lotsN (n : Nat) : List (List Nat) := (lotsA n).drop 1
theorem lotsA_len : ∀ n, (lotsA n).length = 2 ^ n
  | 0 => rfl
  | n + 1 => by unfold lotsA; rw [List.length_append, List.length_map, lotsA_len n, Nat.pow_succ]; omega
theorem lotsN_len (n : Nat) : (lotsN n).length = 2 ^ n - 1 := by unfold lotsN; rw [List.length_drop, lotsA_len]
def lotFine (n : Nat) (l : List Nat) : Bool := l.all (fun x => Nat.blt x n) && !l.isEmpty && decide (lotN l = l) && decide (l.length ≤ 6)
theorem lots_fine : ∀ n : _root_.Fin 7, (lotsN n.val).all (lotFine n.val) = true := by decide +kernel
theorem lotsN_fine {n : Nat} (hn : n ≤ 6) {l : List Nat} (h : l ∈ lotsN n) : (∀ x ∈ l, x < n) ∧ l ≠ [] ∧ lotN l = l ∧ l.length ≤ 6 := by
  have := List.all_eq_true.mp (lots_fine ⟨n, by omega⟩) l h
  unfold lotFine at this
  simp only [Bool.and_eq_true] at this
  obtain ⟨⟨⟨h1, h2⟩, h3⟩, h4⟩ := this
  refine ⟨fun x m => Nat.le_of_ble_eq_true (List.all_eq_true.mp h1 x m), fun e => ?_, of_decide_eq_true h3, of_decide_eq_true h4⟩
  rw [e] at h2; cases h2
theorem lotN_rev {l : List Nat} {n : Nat} (hn : n ≤ 36) (h : ∀ x ∈ l, x < n) : lotN l.reverse = lotN l := by
  refine asc_nat (lotN_asc _) (lotN_asc _) fun z => ?_
  rw [lotN_mem hn (fun x m => h x (List.mem_reverse.mp m)), lotN_mem hn h, List.mem_reverse]
/-! ### renamed -/
def Ta.ren (t : Ta) (o : List Nat) : Ta :=
  let n := o.length
  ⟨(List.range n).map fun s => (List.range n).map fun u => nat o (t.bo (o.idxOf s) (o.idxOf u)), (List.range n).map fun s => nat o (nat t.r (o.idxOf s)), (List.range n).map fun s => nat o (nat t.l (o.idxOf s)), (lotsN n).map fun l => nat o (t.mx (l.map o.idxOf))⟩
/-- each answer once -/
def Perm (o : List Nat) (n : Nat) : Prop := o.Perm (List.range n)
theorem Perm.len {o : List Nat} {n : Nat} (h : Perm o n) : o.length = n := by rw [List.Perm.length_eq h, List.length_range]
theorem Perm.lt {o : List Nat} {n : Nat} (h : Perm o n) : ∀ x ∈ o, x < n := fun x m => List.mem_range.mp ((List.Perm.mem_iff h).mp m)
theorem Perm.mem {o : List Nat} {n s : Nat} (h : Perm o n) (hs : s < n) : s ∈ o := (List.Perm.mem_iff h).mpr (List.mem_range.mpr hs)
theorem Perm.idx {o : List Nat} {n s : Nat} (h : Perm o n) (hs : s < n) : o.idxOf s < n := by rw [← h.len]; exact List.idxOf_lt_length_of_mem (h.mem hs)
theorem Ta.ren_ok {t : Ta} {n : Nat} {o : List Nat} (h : t.Ok n) (p : Perm o n) : (t.ren o).Ok n := by
  have oo : o.length = n ∧ ∀ x ∈ o, x < n := ⟨p.len, p.lt⟩
  unfold Ta.ren
  simp only [p.len]
  refine ⟨h.n1, h.n6, by simp, fun row m => ?_, range_row fun k hk => (nat_mem oo (nat_mem h.rr (p.idx hk)).2).2, range_row fun k hk => (nat_mem oo (nat_mem h.ll (p.idx hk)).2).2, by rw [List.length_map, lotsN_len], fun x m => ?_⟩
  · obtain ⟨s, hs, rfl⟩ := List.mem_map.mp m
    exact range_row fun k hk => (nat_mem oo (Ta.bo_lt h (p.idx (List.mem_range.mp hs)) (p.idx hk))).2
  · obtain ⟨l, hl, rfl⟩ := List.mem_map.mp m
    have f := lotsN_fine h.n6 hl
    refine (nat_mem oo (Ta.mx_lt h (fun x mx => ?_) ?_).2).2
    · obtain ⟨y, hy, rfl⟩ := List.mem_map.mp mx
      exact p.idx (f.1 y hy)
    · intro e
      exact f.2.1 (List.map_eq_nil_iff.mp e)
theorem firstAt_ns (o : List Nat) (s : Nat) (h : s ∈ o) : ∀ n, firstAt (iD s) (o.map iD) n = some (n + o.idxOf s) := by
  induction o with
  | nil => cases h
  | cons x o ih =>
    intro n
    unfold firstAt
    rw [List.map_cons]
    show (match (iD x).eqv (iD s) with | true => some n | false => firstAt (iD s) (o.map iD) (n + 1)) = _
    rw [eqv_iD, List.idxOf_cons]
    by_cases e : x = s
    · subst e; simp
    · have m : s ∈ o := by
        rcases List.mem_cons.mp h with q | q
        · exact absurd q.symm e
        · exact q
      have e2 : (x == s) = false := by simp [e]
      rw [e2, ih m (n + 1)]
      simp; omega
/-! ### beside -/
def Ta.side (t u : Ta) : Ta :=
  let m := u.r.length
  let k := t.r.length * m
  ⟨(List.range k).map fun a => (List.range k).map fun c => t.bo (a / m) (c / m) * m + u.bo (a % m) (c % m), (List.range k).map fun a => nat t.r (a / m) * m + nat u.r (a % m), (List.range k).map fun a => nat t.l (a / m) * m + nat u.l (a % m),
    (lotsN k).map fun l => t.mx (l.map (· / m)) * m + u.mx (l.map (· % m))⟩
theorem pair_lt {x y n m : Nat} (h1 : x < n) (h2 : y < m) : x * m + y < n * m := by
  have : (x + 1) * m ≤ n * m := Nat.mul_le_mul_right m h1
  rw [Nat.add_mul] at this
  omega
theorem Ta.side_ok {t u : Ta} {n m : Nat} (h : t.Ok n) (g : u.Ok m) (hk : n * m < 7) : (t.side u).Ok (n * m) := by
  have m1 := g.n1
  have dv : ∀ {a}, a < n * m → a / m < n := fun {a} ha => Nat.div_lt_of_lt_mul (by rw [Nat.mul_comm]; exact ha)
  have md : ∀ {a}, a % m < m := fun {a} => Nat.mod_lt _ (by omega)
  have k1 : 1 ≤ n * m := Nat.mul_pos h.n1 g.n1
  unfold Ta.side
  simp only [h.rr.1, g.rr.1]
  refine ⟨k1, by omega, by simp, fun row mr => ?_, range_row fun k hk => pair_lt (nat_mem h.rr (dv hk)).2 (nat_mem g.rr md).2, range_row fun k hk => pair_lt (nat_mem h.ll (dv hk)).2 (nat_mem g.ll md).2, by rw [List.length_map, lotsN_len], fun x mx => ?_⟩
  · obtain ⟨s, hs, rfl⟩ := List.mem_map.mp mr
    exact range_row fun k hk => pair_lt (Ta.bo_lt h (dv (List.mem_range.mp hs)) (dv hk)) (Ta.bo_lt g md md)
  · obtain ⟨l, hl, rfl⟩ := List.mem_map.mp mx
    have f := lotsN_fine (n := n * m) (by omega) hl
    refine pair_lt (Ta.mx_lt h (fun x mx => ?_) fun e => f.2.1 (List.map_eq_nil_iff.mp e)).2 (Ta.mx_lt g (fun x mx => ?_) fun e => f.2.1 (List.map_eq_nil_iff.mp e)).2
    · obtain ⟨y, hy, rfl⟩ := List.mem_map.mp mx
      exact dv (f.1 y hy)
    · obtain ⟨y, hy, rfl⟩ := List.mem_map.mp mx
      exact md
theorem gIx_nl {xs : List Nat} {k n m : Nat} (h : xs.length = m ∧ ∀ x ∈ xs, x < n) (hk : k < m) : gIx (.list (xs.map iD)) (iD k) = some (.va (iD (nat xs k))) := by
  show ob (L2.atI (xs.map iD) (k : Int)) _ = _
  rw [atI_nat, List.getElem?_map, (nat_mem h hk).1]; rfl
theorem nat_range {n k : Nat} (f : Nat → Nat) (hk : k < n) : nat ((List.range n).map f) k = f k := by
  unfold nat
  rw [List.getD_eq_getElem?_getD, List.getElem?_map, List.getElem?_range hk]; rfl
theorem eForCons {g : XT} {f : XS} {d : PyData} {ds : List PyData} {sd s1 s : SD} {fl : Fl} (h : g d sd = some s1) (h2 : f s1 = some (.nx s)) (q : forX g f ds s = some fl) : forX g f (d :: ds) sd = some fl := eob h (eob h2 q)
theorem lenOk_map {α : Type} {xs : List α} {f : α → PyData} (h : xs.length ≤ 1000000) : lenOk (xs.map f) = true := lenOk_of (by rw [List.length_map]; exact h)
def prD (m a : Nat) : PyData := .tuple [iD (a / m), iD (a % m)]
theorem gMul_n {n m : Nat} (h : n ≤ 1000000) : gMul (iD n) (iD m) = some (.va (iD (n * m))) := by
  show oif (mulOk (n : Int) (m : Int)) (some (RV.va (.int ((n : Int) * m)))) = _
  have e : mulOk (n : Int) (m : Int) = true := by
    unfold mulOk
    have : (2 : Int) ^ 64 = 18446744073709551616 := by decide
    rw [Nat.ble_eq_true_of_le (show (n : Int).natAbs ≤ 9223372036854775807 by omega)]; rfl
  rw [e]
  show some (RV.va (.int ((n : Int) * m))) = some (RV.va (.int ((n * m : Nat) : Int)))
  rw [Int.natCast_mul]
theorem gAdd_n {n m : Nat} : gAdd (iD n) (iD m) = some (.va (iD (n + m))) := by
  show some (RV.va (.int ((n : Int) + m))) = some (RV.va (.int ((n + m : Nat) : Int)))
  rw [Int.natCast_add]
theorem gFdiv_n {n m : Nat} (h1 : 0 < m) (h : m ≤ 1000000) : gFdiv (iD n) (iD m) = some (.va (iD (n / m))) := by
  show oif (divOk (n : Int) (m : Int)) (some (RV.va (.int ((n : Int) / m)))) = _
  have e : divOk (n : Int) (m : Int) = true := by
    unfold divOk
    rw [decide_eq_true (show (0 : Int) < m by omega), Nat.ble_eq_true_of_le (show (m : Int).natAbs ≤ 1000000000000000000000 by omega)]; rfl
  rw [e]
  show some (RV.va (.int ((n : Int) / m))) = some (RV.va (.int ((n / m : Nat) : Int)))
  rw [Int.natCast_ediv]
theorem gMod_n {n m : Nat} (h1 : 0 < m) : gMod (iD n) (iD m) = some (.va (iD (n % m))) := by
  show oif (decide (0 < (m : Int))) (some (RV.va (.int ((n : Int) % m)))) = _
  rw [decide_eq_true (by omega)]
  show some (RV.va (.int ((n : Int) % m))) = some (RV.va (.int ((n % m : Nat) : Int)))
  rw [Int.natCast_emod]
theorem gIx_pr {m k a : Nat} (ha : a < k) : gIx (.list ((List.range k).map (prD m))) (iD a) = some (.va (prD m a)) := by
  show ob (L2.atI ((List.range k).map (prD m)) (a : Int)) _ = _
  rw [atI_nat, List.getElem?_map, List.getElem?_range ha]; rfl
theorem pkN {m : Nat} {Q : RV → Prop} (h : 1 ≤ m ∧ m < 1152921504606846976) (q : ∀ r : Nat, r < m → Q (.va (iD r))) : fsPick [.so, .va (iD m)] Q := by
  show (m : Int) < 1152921504606846976 ∧ ∀ r : Int, 0 ≤ r → (r < m ∨ r = 0) → Q (.va (.int r))
  refine ⟨by omega, fun r r0 r1 => ?_⟩
  have := q r.toNat (by omega)
  unfold iD at this
  rw [Int.toNat_of_nonneg r0] at this
  exact this
theorem fsX_at {g : List AV → Option RV} {as : List AV} {r : RV} {Q : RV → Prop} (h : g as = some r) : Q r → fsX g as Q := fun q => fsX_of h q
end DL

set_option Elab.async false
set_option linter.all false
set_option maxRecDepth 100000
set_option maxHeartbeats 4000000
/-! texts of lists of small numbers; equal data -/
namespace DL
open PySem PySem.Spec PyProof.Rows L2
theorem map_nat {xs : List Nat} {n : Nat} (h : xs.length = n) : (List.range n).map (nat xs) = xs := by
  refine List.ext_getElem (by rw [List.length_map, List.length_range, h]) fun i h1 h2 => ?_
  rw [List.getElem_map, List.getElem_range]
  unfold nat
  rw [List.getD_eq_getElem?_getD, List.getElem?_eq_getElem h2]; rfl
theorem gEq_iD (neg : Bool) (a b : Nat) : gEq neg (iD a) (iD b) = some (.va (.bool (if neg then !decide (a = b) else decide (a = b)))) := by
  show some (RV.va (.bool (if neg then !decide ((a : Int) = b) else decide ((a : Int) = b)))) = _
  by_cases h : a = b
  · subst h; simp
  · have : ¬ (a : Int) = b := by omega
    rw [decide_eq_false h, decide_eq_false this]
theorem gEq_str (neg : Bool) (a : Str) : gEq neg (.str a) (.str a) = some (.va (.bool neg.not)) := by
  show ob (some (strEq a a)) _ = _
  rw [strEq_eq, decide_eq_true rfl, ob_some]
  cases neg <;> rfl
theorem gAddL {xs ys : List PyData} (h : xs.length + ys.length ≤ 1000000) : gAdd (.list xs) (.list ys) = some (.fr (xs ++ ys)) := by
  show oif (Nat.ble (xs.length + ys.length) sizeLine) _ = _
  rw [Nat.ble_eq_true_of_le (by rw [sizeLine_eq]; omega)]; rfl
theorem gAddT {xs ys : List PyData} (h : xs.length + ys.length ≤ 1000000) : gAdd (.tuple xs) (.tuple ys) = some (.va (.tuple (xs ++ ys))) := by
  show oif (Nat.ble (xs.length + ys.length) sizeLine) _ = _
  rw [Nat.ble_eq_true_of_le (by rw [sizeLine_eq]; omega)]; rfl
theorem gRepr_of {d : PyData} (h : okShow d) : gRepr d = some (.va (.str d.shown)) := by
  unfold gRepr okShowB lineOk
  rw [h.1.1, h.1.2, Nat.ble_eq_true_of_le h.2]; rfl
theorem gTupL (xs : List PyData) : g1 gTuple [.list xs] = some (.va (.tuple xs)) := rfl
variable [Tb]
theorem plL_ns : ∀ {xs : List Nat}, (∀ x ∈ xs, x < 100) → plL (xs.map iD) = true ∧ wtL (xs.map iD) = 6 * xs.length
  | [], _ => ⟨rfl, rfl⟩
  | x :: xs, h => by
    obtain ⟨h1, h2⟩ := plL_ns (xs := xs) fun y m => h y (List.mem_cons_of_mem _ m)
    have hx := h x List.mem_cons_self
    constructor
    · show (smI (x : Int) && plL (xs.map iD)) = true
      rw [h1]
      unfold smI
      rw [decide_eq_true (by omega)]; rfl
    · show 4 + 2 + wtL (xs.map iD) = 6 * (xs.length + 1)
      rw [h2]; omega
theorem depthAll_ns (xs : List Nat) : PyData.depthAll (xs.map iD) = 0 := by
  induction xs with
  | nil => rfl
  | cons x xs ih =>
    show max (PyData.depth (iD x)) (PyData.depthAll (xs.map iD)) = 0
    rw [ih]; rfl
theorem good_nl {xs : List Nat} (h : ∀ x ∈ xs, x < 100) (hl : xs.length ≤ 100000) : Good (.list (xs.map iD)) := by
  obtain ⟨h1, h2⟩ := plL_ns h
  refine good_pl (show plL (xs.map iD) = true from h1) ?_ ?_
  · show PyData.depthAll (xs.map iD) + 1 ≤ 64
    rw [depthAll_ns]; decide
  · show wtL (xs.map iD) + 3 ≤ 10000000
    rw [h2]; omega
theorem good_ns {xs : List Nat} (h : ∀ x ∈ xs, x < 100) (hl : xs.length ≤ 100000) : Good (nsD xs) := by
  obtain ⟨h1, h2⟩ := plL_ns h
  refine good_pl (show plL (xs.map iD) = true from h1) ?_ ?_
  · show PyData.depthAll (xs.map iD) + 1 ≤ 64
    rw [depthAll_ns]; decide
  · show wtL (xs.map iD) + 3 ≤ 10000000
    rw [h2]; omega
end DL

set_option Elab.async false
set_option linter.all false
set_option maxRecDepth 100000
set_option maxHeartbeats 4000000
/-! tables in which three answers come to one: kept by turning, renaming, and side by side -/
namespace DL
open PySem PySem.Spec PyProof.Rows L2
def Ta.As (t : Ta) (n : Nat) : Prop := ∀ a b c, a < n → b < n → c < n → t.bo (t.bo a b) c = t.bo a (t.bo b c)
def Ta.asB (t : Ta) (n : Nat) : Bool := (List.range n).all fun a => (List.range n).all fun b => (List.range n).all fun c => Nat.beq (t.bo (t.bo a b) c) (t.bo a (t.bo b c))
theorem Ta.as_of {t : Ta} {n : Nat} (h : t.asB n = true) : t.As n := fun a b c ha hb hc => by
  unfold Ta.asB at h
  have h1 := List.all_eq_true.mp h a (List.mem_range.mpr ha)
  have h2 := List.all_eq_true.mp h1 b (List.mem_range.mpr hb)
  exact Nat.eq_of_beq_eq_true (List.all_eq_true.mp h2 c (List.mem_range.mpr hc))
theorem row_range {n k : Nat} (f : Nat → List Nat) (hk : k < n) : row ((List.range n).map f) k = f k := by
  unfold row
  rw [List.getD_eq_getElem?_getD, List.getElem?_map, List.getElem?_range hk]; rfl
theorem bo_turn {t : Ta} {n s u : Nat} (h : t.Ok n) (hs : s < n) (hu : u < n) : t.turn.bo s u = t.bo u s := by
  have e : t.r.length = n := h.rr.1
  unfold Ta.turn Ta.bo
  rw [e, row_range _ hs, nat_range _ hu]
theorem bo_ren {t : Ta} {n s u : Nat} {o : List Nat} (p : Perm o n) (hs : s < n) (hu : u < n) : (t.ren o).bo s u = nat o (t.bo (o.idxOf s) (o.idxOf u)) := by
  unfold Ta.ren
  simp only [p.len]
  unfold Ta.bo
  rw [row_range _ hs, nat_range _ hu]
theorem bo_side {t u : Ta} {n m a c : Nat} (h : t.Ok n) (g : u.Ok m) (ha : a < n * m) (hc : c < n * m) : (t.side u).bo a c = t.bo (a / m) (c / m) * m + u.bo (a % m) (c % m) := by
  unfold Ta.side
  simp only [h.rr.1, g.rr.1]
  unfold Ta.bo
  rw [row_range _ ha, nat_range _ hc]
theorem Perm.nodup {o : List Nat} {n : Nat} (p : Perm o n) : o.Nodup := (List.Perm.nodup_iff p).mpr List.nodup_range
theorem Perm.back {o : List Nat} {n k : Nat} (p : Perm o n) (hk : k < n) : o.idxOf (nat o k) = k ∧ nat o k < n := by
  have hl : k < o.length := by rw [p.len]; exact hk
  have e : nat o k = o[k] := by
    unfold nat
    rw [List.getD_eq_getElem?_getD, List.getElem?_eq_getElem hl]; rfl
  rw [e]
  exact ⟨List.Nodup.idxOf_getElem p.nodup k hl, p.lt _ (List.getElem_mem hl)⟩
theorem Ta.turn_as {t : Ta} {n : Nat} (h : t.Ok n) (a : t.As n) : t.turn.As n := fun x y z hx hy hz => by
  rw [bo_turn h hx hy, bo_turn h (Ta.bo_lt h hy hx) hz, bo_turn h hy hz, bo_turn h hx (Ta.bo_lt h hz hy), a z y x hz hy hx]
theorem Ta.ren_as {t : Ta} {n : Nat} {o : List Nat} (h : t.Ok n) (p : Perm o n) (a : t.As n) : (t.ren o).As n := fun x y z hx hy hz => by
  have ix := p.idx hx
  have iy := p.idx hy
  have iz := p.idx hz
  have b1 := p.back (Ta.bo_lt h ix iy)
  have b2 := p.back (Ta.bo_lt h iy iz)
  rw [bo_ren p hx hy, bo_ren p b1.2 hz, bo_ren p hy hz, bo_ren p hx b2.2, b1.1, b2.1, a _ _ _ ix iy iz]
theorem Ta.side_as {t u : Ta} {n m : Nat} (h : t.Ok n) (g : u.Ok m) (a : t.As n) (b : u.As m) : (t.side u).As (n * m) := fun x y z hx hy hz => by
  have m1 : 0 < m := g.n1
  have dv : ∀ {a}, a < n * m → a / m < n := fun {a} ha => Nat.div_lt_of_lt_mul (by rw [Nat.mul_comm]; exact ha)
  have md : ∀ {a}, a % m < m := fun {a} => Nat.mod_lt _ m1
  have l1 := Ta.bo_lt h (dv hx) (dv hy)
  have l2 : u.bo (x % m) (y % m) < m := Ta.bo_lt g md md
  have l3 := Ta.bo_lt h (dv hy) (dv hz)
  have l4 : u.bo (y % m) (z % m) < m := Ta.bo_lt g md md
  have q : ∀ {i j : Nat}, j < m → (i * m + j) / m = i ∧ (i * m + j) % m = j := fun {i j} hj => by
    constructor
    · rw [Nat.mul_comm, Nat.mul_add_div m1, Nat.div_eq_of_lt hj, Nat.add_zero]
    · rw [Nat.mul_comm, Nat.mul_add_mod, Nat.mod_eq_of_lt hj]
  rw [bo_side h g hx hy, bo_side h g (pair_lt l1 l2) hz, bo_side h g hy hz, bo_side h g hx (pair_lt l3 l4), (q l2).1, (q l2).2, (q l4).1, (q l4).2, a _ _ _ (dv hx) (dv hy) (dv hz), b _ _ _ md md md]
/-! ### powers -/
/-- k + 1 of one answer, one behind another -/
def Ta.pw (t : Ta) (s : Nat) : Nat → Nat
  | 0 => s
  | k + 1 => t.bo (t.pw s k) s
theorem Ta.pw_lt {t : Ta} {n s : Nat} (h : t.Ok n) (hs : s < n) : ∀ k, t.pw s k < n
  | 0 => hs
  | k + 1 => Ta.bo_lt h (Ta.pw_lt h hs k) hs
theorem Ta.pw_add {t : Ta} {n s : Nat} (h : t.Ok n) (a : t.As n) (hs : s < n) (j : Nat) : ∀ k, t.bo (t.pw s j) (t.pw s k) = t.pw s (j + k + 1)
  | 0 => rfl
  | k + 1 => by
    show t.bo (t.pw s j) (t.bo (t.pw s k) s) = t.bo (t.pw s (j + k + 1)) s
    rw [← a _ _ _ (Ta.pw_lt h hs j) (Ta.pw_lt h hs k) hs, Ta.pw_add h a hs j k]
end DL

set_option Elab.async false
set_option linter.all false
set_option maxRecDepth 100000
set_option maxHeartbeats 4000000
/-! the round of an answer's powers -/
namespace DL
open PySem PySem.Spec PyProof.Rows L2
theorem few_of : ∀ (n : Nat) (l : List Nat), l.Nodup → (∀ x ∈ l, x < n) → l.length ≤ n
  | 0, l, _, h => by
    cases l with
    | nil => exact Nat.le_refl _
    | cons x l => exact absurd (h x List.mem_cons_self) (Nat.not_lt_zero x)
  | n + 1, l, nd, h => by
    by_cases m : n ∈ l
    · have h1 := few_of n (l.erase n) (nd.erase n) fun x mx => by
        have h2 := h x (List.mem_of_mem_erase mx)
        have h3 := (List.Nodup.mem_erase_iff nd).mp mx
        have := h3.1
        omega
      rw [List.length_erase_of_mem m] at h1
      omega
    · have := few_of n l nd fun x mx => by
        have h2 := h x mx
        have : x ≠ n := fun e => m (by rw [← e]; exact mx)
        omega
      omega
/-- the first k powers -/
def Ta.P (t : Ta) (s k : Nat) : List Nat := (List.range k).map (t.pw s)
theorem Ta.P_succ (t : Ta) (s k : Nat) : t.P s (k + 1) = t.P s k ++ [t.pw s k] := by
  unfold Ta.P; rw [List.range_succ, List.map_append]; rfl
theorem Ta.P_len (t : Ta) (s k : Nat) : (t.P s k).length = k := by unfold Ta.P; rw [List.length_map, List.length_range]
/-- m powers, no two alike; the next one is power f again -/
structure Ta.Rd (t : Ta) (s m f : Nat) : Prop where
  lt : f < m
  back : t.pw s m = t.pw s f
  nd : (t.P s m).Nodup
theorem nodup_snoc {l : List Nat} {x : Nat} (h : l.Nodup) (m : x ∉ l) : (l ++ [x]).Nodup := by
  rw [List.nodup_append]
  exact ⟨h, by simp, fun a ha b hb => by rw [List.mem_singleton] at hb; subst hb; intro e; exact m (by rw [← e]; exact ha)⟩
theorem Ta.rd_ex {t : Ta} {n s : Nat} (h : t.Ok n) (hs : s < n) : ∃ m f, t.Rd s m f ∧ m ≤ n := by
  have key : ∀ k : Nat, (∃ m f, t.Rd s m f ∧ m ≤ k) ∨ (t.P s (k + 1)).Nodup := fun k => by
    induction k with
    | zero => exact .inr (by unfold Ta.P; simp)
    | succ k ih =>
      rcases ih with ⟨m, f, r, l⟩ | nd
      · exact .inl ⟨m, f, r, by omega⟩
      · by_cases m : t.pw s (k + 1) ∈ t.P s (k + 1)
        · obtain ⟨f, hf, e⟩ := List.mem_map.mp (show t.pw s (k + 1) ∈ (List.range (k + 1)).map (t.pw s) from m)
          exact .inl ⟨k + 1, f, ⟨List.mem_range.mp hf, e.symm, nd⟩, Nat.le_refl _⟩
        · exact .inr (by rw [Ta.P_succ]; exact nodup_snoc nd m)
  rcases key n with r | nd
  · exact r
  · have := few_of n _ nd fun x m => by
      obtain ⟨k, _, rfl⟩ := List.mem_map.mp (show x ∈ (List.range (n + 1)).map (t.pw s) from m)
      exact Ta.pw_lt h hs k
    rw [Ta.P_len] at this
    omega
section
variable {t : Ta} {s m f : Nat}
theorem P_get {i : Nat} (hi : i < m) : (t.P s m)[i]? = some (t.pw s i) := by
  unfold Ta.P; rw [List.getElem?_map, List.getElem?_range hi]; rfl
theorem Ta.Rd.inj (r : t.Rd s m f) {i j : Nat} (hi : i < m) (hj : j < m) (e : t.pw s i = t.pw s j) : i = j := by
  have h1 := P_get (t := t) (s := s) hi
  have h2 := P_get (t := t) (s := s) hj
  rw [← e] at h2
  have li : i < (t.P s m).length := by rw [Ta.P_len]; exact hi
  have lj : j < (t.P s m).length := by rw [Ta.P_len]; exact hj
  have e1 := (List.getElem?_eq_some_iff.mp h1).2
  have e2 := (List.getElem?_eq_some_iff.mp h2).2
  have q1 := List.Nodup.idxOf_getElem r.nd i li
  have q2 := List.Nodup.idxOf_getElem r.nd j lj
  rw [e1] at q1
  rw [e2] at q2
  exact q1.symm.trans q2
theorem Ta.Rd.idx (r : t.Rd s m f) {i : Nat} (hi : i < m) : (t.P s m).idxOf (t.pw s i) = i := by
  have li : i < (t.P s m).length := by rw [Ta.P_len]; exact hi
  have e := (List.getElem?_eq_some_iff.mp (P_get (t := t) (s := s) hi)).2
  rw [← e]
  exact List.Nodup.idxOf_getElem r.nd i li
theorem Ta.Rd.per (r : t.Rd s m f) : ∀ i : Nat, t.pw s (f + i + (m - f)) = t.pw s (f + i)
  | 0 => by
    have := r.lt
    rw [show f + 0 + (m - f) = m by omega]; exact r.back
  | i + 1 => by
    rw [show f + (i + 1) + (m - f) = (f + i + (m - f)) + 1 by omega, show f + (i + 1) = (f + i) + 1 by omega]
    show t.bo _ s = t.bo _ s
    rw [r.per i]
theorem Ta.Rd.per2 (r : t.Rd s m f) (i : Nat) : ∀ k : Nat, t.pw s (f + i + (m - f) * k) = t.pw s (f + i)
  | 0 => by rw [Nat.mul_zero, Nat.add_zero]
  | k + 1 => by
    rw [Nat.mul_succ, ← Nat.add_assoc, show f + i + (m - f) * k + (m - f) = f + (i + (m - f) * k) + (m - f) by omega, r.per, ← Nat.add_assoc]
    exact r.per2 i k
/-- a power by the round -/
theorem Ta.Rd.take (r : t.Rd s m f) {k : Nat} (hk : f ≤ k) : t.pw s (f + (k - f) % (m - f)) = t.pw s k := by
  have e := Nat.mod_add_div (k - f) (m - f)
  have h := r.per2 ((k - f) % (m - f)) ((k - f) / (m - f))
  rw [← h]
  congr 1
  omega
theorem Ta.Rd.eq_iff (r : t.Rd s m f) {i j : Nat} (hi : i < m) (hij : i < j) : t.pw s j = t.pw s i ↔ f ≤ i ∧ (m - f) ∣ (j - i) := by
  have hL : 0 < m - f := by have := r.lt; omega
  constructor
  · intro e
    by_cases hj : j < m
    · have := r.inj hj hi e; omega
    · have hf : f ≤ j := by have := r.lt; omega
      have h1 := r.take hf
      have lt := Nat.mod_lt (j - f) hL
      have hx : f + (j - f) % (m - f) < m := by omega
      have e2 := r.inj hx hi (h1.trans e)
      refine ⟨by omega, ?_⟩
      have dm := Nat.mod_add_div (j - f) (m - f)
      exact ⟨(j - f) / (m - f), by omega⟩
  · rintro ⟨hf, k, hk⟩
    have h := r.per2 (i - f) k
    rw [show f + (i - f) = i by omega] at h
    rw [← h]
    congr 1
    omega
/-- the number of the power that is its own double, less one -/
def still (m f : Nat) : Nat := (f + 1 + (m - f) - 1) / (m - f) * (m - f) - 1
theorem still_in (h : f < m) : f ≤ still m f ∧ still m f < m ∧ (m - f) ∣ (still m f + 1) := by
  unfold still
  have hL : 0 < m - f := by omega
  have e := Nat.mod_add_div (f + 1 + (m - f) - 1) (m - f)
  have l := Nat.mod_lt (f + 1 + (m - f) - 1) hL
  rw [Nat.mul_comm] at e
  have p : 1 ≤ (f + 1 + (m - f) - 1) / (m - f) * (m - f) := by omega
  refine ⟨by omega, by omega, ?_⟩
  rw [show (f + 1 + (m - f) - 1) / (m - f) * (m - f) - 1 + 1 = (f + 1 + (m - f) - 1) / (m - f) * (m - f) by omega]
  exact ⟨_, Nat.mul_comm _ _⟩
theorem still_one (h : f < m) {i : Nat} (hf : f ≤ i) (hi : i < m) (d : (m - f) ∣ (i + 1)) : i = still m f := by
  obtain ⟨h1, h2, a, ha⟩ := still_in h
  obtain ⟨b, hb⟩ := d
  have : a = b := by
    rcases Nat.lt_trichotomy a b with q | q | q
    · have : (m - f) * (a + 1) ≤ (m - f) * b := Nat.mul_le_mul_left _ q
      rw [Nat.mul_add, Nat.mul_one] at this
      omega
    · exact q
    · have : (m - f) * (b + 1) ≤ (m - f) * a := Nat.mul_le_mul_left _ q
      rw [Nat.mul_add, Nat.mul_one] at this
      omega
  subst this
  omega
theorem filter_one (k : Nat) (c : Nat → Bool) : ∀ m : Nat, (∀ i, i < m → (c i = true ↔ i = k)) → k < m → (List.range m).filter c = [k]
  | 0, _, h => absurd h (Nat.not_lt_zero k)
  | m + 1, hc, hk => by
    rw [List.range_succ, List.filter_append]
    by_cases e : k = m
    · subst e
      have h0 : (List.range k).filter c = [] := by
        rw [List.filter_eq_nil_iff]
        intro x mx hx
        have lx := List.mem_range.mp mx
        have := (hc x (by omega)).mp hx
        omega
      have h1 : c k = true := (hc k (by omega)).mpr rfl
      rw [h0, List.filter_cons, if_pos h1]; rfl
    · have h1 : c m = false := by
        cases q : c m with
        | false => rfl
        | true => exact absurd ((hc m (by omega)).mp q).symm e
      rw [filter_one k c m (fun i hi => hc i (by omega)) (by omega), List.filter_cons, if_neg (by rw [h1]; exact Bool.false_ne_true)]; rfl
/-- among the powers just one is its own double -/
theorem Ta.Rd.still (r : t.Rd s m f) {n : Nat} (h : t.Ok n) (a : t.As n) (hs : s < n) : (t.P s m).filter (fun x => decide (t.bo x x = x)) = [t.pw s (still m f)] := by
  have q := still_in r.lt
  have : (t.P s m).filter (fun x => decide (t.bo x x = x)) = ((List.range m).filter ((fun x => decide (t.bo x x = x)) ∘ t.pw s)).map (t.pw s) := by
    unfold Ta.P; rw [List.filter_map]
  rw [this, filter_one (DL.still m f) _ m (fun i hi => ?_) q.2.1]
  · rfl
  · show decide (t.bo (t.pw s i) (t.pw s i) = t.pw s i) = true ↔ _
    rw [decide_eq_true_eq, Ta.pw_add h a hs, r.eq_iff hi (by omega), show i + i + 1 - i = i + 1 by omega]
    constructor
    · rintro ⟨h1, h2⟩; exact still_one r.lt h1 hi h2
    · rintro rfl; exact ⟨q.1, q.2.2⟩
end
end DL

set_option Elab.async false
set_option linter.all false
set_option maxRecDepth 100000
set_option maxHeartbeats 4000000
/-! a tuple times one: the same tuple -/
namespace DL
open PySem PySem.Spec PyProof.Rows L2
theorem tuple_once (l : Addr) (items : Array Value) (n : Nat) (dd : Option Addr) (sl : Array (Option Value)) (u : Tok) :
    Meets (Builtin.«tuple.__mul__» ⟨[.ref l, .int 1 u], []⟩) (fun _ R s => s.heap.get? l = some { cls := .type "tuple", dict := dd, data := .seq items n, slots := sl } ∧ R (.ok (.ret (Value.ref l))) s) :=
  .of_wp fun prog w A R s h => by
    obtain ⟨hp, g, d, tk, os⟩ := s
    obtain ⟨hl, h⟩ := h
    have f1 := AutoSeq1.idx_int
    have c1 : (items.isEmpty || (1 : Int) == 1) = true := by rw [Bool.or_comm]; rfl
    wp_walk using wpAny_loadPart' hl
    all_goals exact ⟨_, rfl, h⟩
def rOnce (K : PySem.W.Frag) : R2 := fun x y H Q => ∃ l xs, x = .ref l ∧ y = .int 1 ∧ SqT K H l xs ∧ Q (.ref l) H
section
variable {X : Cx}
theorem op_once : OpR X (binaryOp .Mult) (rOnce X.K) := by
  intro pins s σ H x y v u Q I rx ry h
  obtain ⟨l, xs, rfl, rfl, hT, q⟩ := h
  cases rx
  obtain ⟨t, rfl⟩ := ry
  obtain ⟨its, r, ⟨⟨cls, dd, data, sl⟩, ho, hc, n, hd⟩, hs⟩ := I.tuple hT
  simp only at hc hd
  subst hc hd
  exact wpAny_binaryOp_repeat_ref (T := "tuple") (U := "int") (by decide) ⟨_, ho, rfl⟩ (fun s' => typeIs_int s' 1 t) noFill_tuple_mul F.fills_int_mul F.slot_int_rmul repeat_tuple F.slot_int_index.lookup
    (call_meets F.slot_int_rmul (typeIs_int s 1 t) F.entry_int_rmul (F.args_int_rmul_2 _ _) (int_rmul_tuple 1 t l its.toArray n dd sl)
      ⟨ho, rfl, ⟨_, ho, rfl⟩, call_meets F.slot_tuple_mul ⟨_, ho, rfl⟩ F.entry_tuple_mul (F.args_tuple_mul_2 _ _) (tuple_once l its.toArray n dd sl t) ⟨ho, ⟨.ref l, _, I, rfl, q⟩⟩⟩)
/-- a tuple times one or more -/
def rdMulT : RD2 := fun d e Q => match d, e with
  | .tuple xs, .int k => (1 ≤ k ∧ k ≤ 1000 ∧ xs ≠ [] ∧ xs.length ≤ 1000) ∧ Q (.va (.tuple (List.replicate k.toNat xs).flatten))
  | _, _ => False
variable [Tb]
theorem od_mulT : OpD X (binaryOp .Mult) .sh .sh rdMulT where
  ex := ⟨_, op_once.or op_repT, fun S O H x y d e Q hs hO hx hy q => by
    unfold rdMulT at q
    split at q
    · obtain ⟨a, us, rfl, h1, h2⟩ := shTup hx
      obtain ⟨⟨q1, q2, q3, q4⟩, q5⟩ := q
      rename_i xs k
      by_cases e : k = 1
      · subst e
        refine .inl ⟨a, us, rfl, shInt hy, SqT.same hid_sub h1, ?_⟩
        have z : (List.replicate (1 : Int).toNat xs).flatten = xs := by
          show (List.replicate 1 xs).flatten = xs
          simp
        rw [z] at q5
        exact q5 _ H (Same.refl H) (.tup h1 h2)
      · refine .inr ⟨a, _, us, rfl, shInt hy, SqT.same hid_sub h1, fun z => ?_, by omega, q2, by rw [h2.len]; exact q4, fun p hp => q5 _ _ (same_new hp) (rv_tup hp hO (h2.repl _))⟩
        subst z
        cases h2
        exact q3 rfl
    · exact q.elim⟩
  mo := by
    intro d e Q Q' k q
    unfold rdMulT at q ⊢
    split at q <;> first | exact ⟨q.1, k _ q.2⟩ | exact q.elim
end
end DL

set_option Elab.async false
set_option linter.all false
set_option maxRecDepth 100000
set_option maxHeartbeats 4000000
/-! all() of a list of truths -/
namespace DL
open PySem PySem.Spec PyProof.Rows L2
variable [Tb]
section
variable {X : Cx}
def dAll (d : PyData) (Q : RV → Prop) : Prop := match d with
  | .list xs => ∃ bs : List Bool, xs = bs.map PyData.bool ∧ Q (.va (.bool (bs.all id)))
  | _ => False
theorem all_bools {K : PySem.W.Frag} {H : Hp} : ∀ {vs : List V} {ns : List Bool}, DxAll K H vs (ns.map PyData.bool) → vs = ns.map V.bl
  | _, [], .nil => rfl
  | _, n :: ns, .cons h t => by
    cases h
    rw [all_bools t]
    rfl
theorem cd_all (hc : X.calm = true) : CallD X (.builtin "all") .sh (rd1 dAll) where
  ex := ⟨_, cr_all hc, rd1_br fun S O H x d Q hs hO hd q => by
    unfold dAll at q
    split at q
    · obtain ⟨ns, rfl, q⟩ := q
      obtain ⟨a, us, rfl, h1, h2⟩ := hd
      have e := all_bools h2
      subst e
      exact ⟨a, ns, rfl, .inl (.inl (hid_some h1).2), q _ H (Same.refl H) (.bl _)⟩
    · exact q.elim⟩
  mo := rd1_mo fun d Q Q' k q => by
    unfold dAll at q ⊢
    split at q
    · obtain ⟨ns, e, q⟩ := q
      exact ⟨ns, e, k _ q⟩
    · exact q.elim
end
def boolOf : PyData → Option Bool
  | .bool b => some b
  | _ => none
def boolsOf : List PyData → Option (List Bool)
  | [] => some []
  | d :: ds => ob (boolOf d) fun b => ob (boolsOf ds) fun bs => some (b :: bs)
theorem boolsOf_get : ∀ {ds : List PyData} {bs : List Bool}, boolsOf ds = some bs → ds = bs.map PyData.bool
  | [], _, e => by cases e; rfl
  | d :: ds, _, e => by
    obtain ⟨b, h1, e⟩ := ob_get e
    obtain ⟨bs, h2, e⟩ := ob_get e
    cases e
    cases d with
    | bool c => cases h1; rw [boolsOf_get h2]; rfl
    | _ => cases h1
def gAll : PyData → Option RV
  | .list ds => ob (boolsOf ds) fun bs => some (.va (.bool (bs.all id)))
  | _ => none
theorem zAll : Wy dAll gAll := fun d b e Q q => by
  cases d with
  | list ds =>
    obtain ⟨bs, h1, h2⟩ := ob_get (show ob (boolsOf ds) _ = _ from e)
    cases h2
    exact ⟨bs, boolsOf_get h1, q⟩
  | _ => cases e
theorem boolsOf_map : ∀ bs : List Bool, boolsOf (bs.map PyData.bool) = some bs
  | [] => rfl
  | b :: bs => by
    show ob (some b) _ = _
    rw [ob_some, boolsOf_map bs]; rfl
theorem gAll_map (bs : List Bool) : gAll (.list (bs.map PyData.bool)) = some (.va (.bool (bs.all id))) := by
  show ob (boolsOf (bs.map PyData.bool)) _ = _
  rw [boolsOf_map]; rfl
end DL

set_option Elab.async false
set_option linter.all false
set_option maxRecDepth 100000
set_option maxHeartbeats 4000000
/-! comprehensions with two clauses -/
namespace DL
open PySem PySem.Spec PyProof.Rows L2
variable [Tb]
/-- the inner clause, behind what has been found -/
def lcI (g1 : WG) (t1 : WB) (we : WR) (sd : SD) : List PyData → List PyData → (List PyData → Prop) → Prop
  | [], acc, Q => Q acc
  | x :: xs, acc, Q => g1 x sd fun s3 => t1 s3 fun b => if b = true then we s3 (fun z => acc.length < sizeLine ∧ lcI g1 t1 we sd xs (acc ++ [z.dat]) Q) else lcI g1 t1 we sd xs acc Q
def lcO (g : WG) (t : WB) (wi : WD) (g1 : WG) (t1 : WB) (we : WR) (vs1 : List Nat) (sd : SD) : List PyData → List PyData → (List PyData → Prop) → Prop
  | [], acc, Q => Q acc
  | d :: ds, acc, Q => g d sd fun s2 => t s2 fun b => if b = true then wi s2 (fun e => dItems e fun es => okVs s2 vs1 = true ∧ lcI g1 t1 we (wipeD s2 vs1) es acc fun acc' => lcO g t wi g1 t1 we vs1 sd ds acc' Q) else lcO g t wi g1 t1 we vs1 sd ds acc Q
section
variable {X : Cx} {e tg iter tg1 iter1 elt : Expr} {ifs ifs1 : List Expr} {pos p : Pos} {g g1 : WG} {t t1 : WB} {wi wj : WD} {we : WR} {is is1 vs vs1 : List Nat} {scope : Scope} {own : List (Str × Nat)}
theorem lcI_mo (hg1 : ∀ d sd (Q Q' : SD → Prop), (∀ s, Q s → Q' s) → g1 d sd Q → g1 d sd Q') (ht1 : ∀ sd (Q Q' : Bool → Prop), (∀ r, Q r → Q' r) → t1 sd Q → t1 sd Q') (he : ∀ sd (Q Q' : RV → Prop), (∀ r, Q r → Q' r) → we sd Q → we sd Q') (sd : SD) :
    ∀ (ds acc : List PyData) (Q Q' : List PyData → Prop), (∀ r, Q r → Q' r) → lcI g1 t1 we sd ds acc Q → lcI g1 t1 we sd ds acc Q'
  | [], acc, Q, Q', k, q => k _ q
  | d :: ds, acc, Q, Q', k, q => hg1 _ _ _ _ (fun s y => ht1 _ _ _ (fun b y => by
      cases b with
      | true => exact he _ _ _ (fun z y => ⟨y.1, lcI_mo hg1 ht1 he sd ds _ _ _ k y.2⟩) y
      | false => exact lcI_mo hg1 ht1 he sd ds _ _ _ k y) y) q
theorem lcO_mo (hg : ∀ d sd (Q Q' : SD → Prop), (∀ s, Q s → Q' s) → g d sd Q → g d sd Q') (ht : ∀ sd (Q Q' : Bool → Prop), (∀ r, Q r → Q' r) → t sd Q → t sd Q') (hi : ∀ sd (Q Q' : PyData → Prop), (∀ r, Q r → Q' r) → wj sd Q → wj sd Q') (hg1 : ∀ d sd (Q Q' : SD → Prop), (∀ s, Q s → Q' s) → g1 d sd Q → g1 d sd Q') (ht1 : ∀ sd (Q Q' : Bool → Prop), (∀ r, Q r → Q' r) → t1 sd Q → t1 sd Q') (he : ∀ sd (Q Q' : RV → Prop), (∀ r, Q r → Q' r) → we sd Q → we sd Q') (sd : SD) :
    ∀ (ds acc : List PyData) (Q Q' : List PyData → Prop), (∀ r, Q r → Q' r) → lcO g t wj g1 t1 we vs1 sd ds acc Q → lcO g t wj g1 t1 we vs1 sd ds acc Q'
  | [], acc, Q, Q', k, q => k _ q
  | d :: ds, acc, Q, Q', k, q => hg _ _ _ _ (fun s y => ht _ _ _ (fun b y => by
      cases b with
      | true => exact hi _ _ _ (fun z y => dItems_mo (fun es y => ⟨y.1, lcI_mo hg1 ht1 he _ es _ _ _ (fun a y => lcO_mo hg ht hi hg1 ht1 he sd ds _ _ _ k y) y.2⟩) y) y
      | false => exact lcO_mo hg ht hi hg1 ht1 he sd ds _ _ _ k y) y) q
theorem lc_run2 {c : Cd} {sd : SD} {os : List (Option Addr)} {σ : L2.St} {H1 : Hp} {Q : VK} {J : It} {ds : List PyData} {D : Addr} {ti1 : TI}
    (hg : ∀ d sd (Q Q' : SD → Prop), (∀ s, Q s → Q' s) → g d sd Q → g d sd Q') (ht : ∀ sd (Q Q' : Bool → Prop), (∀ r, Q r → Q' r) → t sd Q → t sd Q') (hi : ∀ sd (Q Q' : PyData → Prop), (∀ r, Q r → Q' r) → wj sd Q → wj sd Q') (hg1 : ∀ d sd (Q Q' : SD → Prop), (∀ s, Q s → Q' s) → g1 d sd Q → g1 d sd Q') (ht1 : ∀ sd (Q Q' : Bool → Prop), (∀ r, Q r → Q' r) → t1 sd Q → t1 sd Q') (he : ∀ sd (Q Q' : RV → Prop), (∀ r, Q r → Q' r) → we sd Q → we sd Q')
    (hw : ∀ (c' : Cd) (s : SD) (os2 : List (Option Addr)) (σ2 : L2.St) (H3 : Hp) (F : It → Hp → Prop), c'.K = X.K → R c' s os2 σ2 H3 →
      wj s (fun e => dItems e fun es => ∀ J1 H4, Ext c'.S H3 H4 → (∀ H2, Same (hid (OO c' os2) H4) (hid (OO c' os2) H2) → ItOk c'.K J1 es (OO c' os2) H2) → F J1 H4) → ti1 σ2 H3 F)
    (hk : c.K = X.K) (r : R c sd os σ H1) (hD : H1 D = none) (hv : ∀ i ∈ vs, noOw (getS sd i) = true) (hsub : ∀ i ∈ is, i ∈ vs) (hsub1 : ∀ i ∈ is1, i ∈ vs1) (hv1 : ∀ i ∈ vs1, i ∈ vs)
    (hJ : ∀ H2, Ext c.S H1 H2 → ItOk c.K J ds (OO { c with Oc := D :: c.Oc } os) H2)
    (q : lcO g t wj g1 t1 we vs1 (wipeD sd vs) ds [] fun out => ∀ v H', Ext c.S H1 H' → RvR X.K (OO c os) H1 H' v (.fr out) → Q v H') :
    ∃ W : Nat → Nat → Hp → Prop, (∃ m, W 0 m (upd H1 D (.lst []))) ∧ ∀ i m H, W i m H →
      (J.stop i H ∧ Q (.ref D) H) ∨ (J.go i H ∧ ∃ Nx : Hp → Prop, (∀ H', Nx H' → ∃ m', m' < m ∧ W (i + 1) m' H') ∧ ∀ x H', J.yld i H x H' →
        tGt X.K is g x (wipe σ vs) H' fun σ2 H2 => wipe σ2 vs = wipe σ vs ∧ tTe X.K t σ2 H2 fun b H3 =>
          if b = true then ti1 σ2 H3 fun J1 H4 => ∃ W1 : Nat → Nat → Hp → Prop, (∃ m, W1 0 m H4) ∧ ∀ j k H, W1 j k H →
            (J1.stop j H ∧ Nx H) ∨ (J1.go j H ∧ ∃ Nx1 : Hp → Prop, (∀ H', Nx1 H' → ∃ k', k' < k ∧ W1 (j + 1) k' H') ∧ ∀ x H', J1.yld j H x H' →
              tGt X.K is1 g1 x (wipe σ2 vs1) H' fun σ3 H5 => wipe σ3 vs1 = wipe σ2 vs1 ∧ tTe X.K t1 σ3 H5 fun b H6 =>
                if b = true then tR X.K we σ3 H6 fun y H7 => ∃ acc, H7 D = some (.lst acc) ∧ acc.length < sizeLine ∧ Nx1 (upd H7 D (.lst (acc ++ [y]))) else Nx1 H6)
          else Nx H3) := by
  have nS : D ∉ c.S := fun z => r.srcNow.there D z hD
  have h0 : c.H0 D = none := by
    cases q : c.H0 D with
    | none => rfl
    | some o => rw [r.ext.st D o nS q] at hD; cases hD
  have hos : ∀ i ∈ vs, ∀ b, os[i]? ≠ some (some b) := fun i m b e => by
    obtain ⟨i', s0, o0, g1, g1', g2, g3, _⟩ := r.ownAt (List.mem_of_getElem? e)
    have ei := r.uniq _ _ _ g3 e
    subst ei
    have := hv i' m
    rw [getS_of g1, noOw_own g1'] at this
    cases this
  have rD := (r.hide (o := .lst []) (H' := upd H1 D (.lst [])) (Ext.of (same_new hD)) hD upd_same own_lst).wipe vs hv
  let c' : Cd := { c with Oc := D :: c.Oc }
  have hDm : D ∈ c'.Oc := List.mem_cons_self
  let S0 : Hp → List V → List PyData → Prop := fun H acc out => H D = some (.lst acc) ∧ DxAll c.K (hid (OO c' os) H) acc out ∧ R c' (wipeD sd vs) os (wipe σ vs) H ∧ Ext c.S H1 H
  let Fin : List PyData → Prop := fun out => ∀ v H', Ext c.S H1 H' → RvR X.K (OO c os) H1 H' v (.fr out) → Q v H'
  refine ⟨fun i m H => ∃ acc out, S0 H acc out ∧ lcO g t wj g1 t1 we vs1 (wipeD sd vs) (ds.drop i) out Fin ∧ m = ds.length - i ∧ i ≤ ds.length,
    ⟨_, [], [], ⟨upd_same, .nil, rD, Ext.of (same_new hD)⟩, q, rfl, Nat.zero_le _⟩, ?_⟩
  rintro i m H ⟨acc, out, ⟨hDa, dacc, rw', x1⟩, q, rfl, hi'⟩
  have ok := hJ H x1
  by_cases hlt : i < ds.length
  · have eg := List.getElem?_eq_getElem hlt
    obtain ⟨go, yl⟩ := ok.1 i _ eg
    rw [List.drop_eq_getElem_cons hlt] at q
    refine .inr ⟨go, fun H' => ∃ acc out, S0 H' acc out ∧ lcO g t wj g1 t1 we vs1 (wipeD sd vs) (ds.drop (i + 1)) out Fin,
      fun H' ⟨acc, out, e1, e2⟩ => ⟨ds.length - (i + 1), by omega, acc, out, e1, e2, rfl, hlt⟩, fun x H' y => ?_⟩
    obtain ⟨rfl, dx⟩ := yl x H' y
    refine ⟨c', wipeD sd vs, os, ds[i], hk, rw', by rw [← hk]; exact dx, hg _ _ _ _ (fun s k σ2 os2 r2 b2 => ⟨?_, ?_⟩) q⟩
    · rw [wipe_but b2 hsub, wipe_idem]
    · refine ⟨c', s, os2, hk, r2, ht _ _ _ (fun b kb H3 x3 => ?_) k⟩
      cases b with
      | false =>
        show ∃ acc out, _
        exact ⟨acc, out, ⟨x3.st D _ nS hDa, DxAll.grow (S := c.S) rw'.sO x3 dacc, rw'.grow x3, x1.trans x3⟩, kb⟩
      | true =>
        have r23 := r2.grow x3
        refine hw c' s os2 σ2 H3 _ hk r23 (hi _ _ _ (fun e ke => dItems_mo (fun es z J1 H4 x4 ok1 => ?_) ke) kb)
        obtain ⟨z0, z⟩ := z
        have rI := (r23.grow x4).wipe vs1 (okVs_all z0)
        have x34 := x3.trans x4
        refine ⟨fun j k H => ∃ acc out, S0 H acc out ∧ R c' (wipeD s vs1) os2 (wipe σ2 vs1) H ∧ Same (hid (OO c' os2) H4) (hid (OO c' os2) H) ∧ lcI g1 t1 we (wipeD s vs1) (es.drop j) out (fun acc' => lcO g t wj g1 t1 we vs1 (wipeD sd vs) (ds.drop (i + 1)) acc' Fin) ∧ k = es.length - j ∧ j ≤ es.length,
          ⟨_, acc, out, ⟨x34.st D _ nS hDa, DxAll.grow (S := c.S) rw'.sO x34 dacc, rw'.grow x34, x1.trans x34⟩, rI, fun _ _ h => h, z, rfl, Nat.zero_le _⟩, ?_⟩
        rintro j k H5 ⟨acc, out, ⟨hDa, dacc, rw5, x5⟩, r5, sm, q5, rfl, hj⟩
        have ok5 := ok1 H5 sm
        by_cases hlt5 : j < es.length
        · have eg5 := List.getElem?_eq_getElem hlt5
          obtain ⟨go5, yl5⟩ := ok5.1 j _ eg5
          rw [List.drop_eq_getElem_cons hlt5] at q5
          refine .inr ⟨go5, fun H' => ∃ acc out, S0 H' acc out ∧ R c' (wipeD s vs1) os2 (wipe σ2 vs1) H' ∧ Same (hid (OO c' os2) H4) (hid (OO c' os2) H') ∧ lcI g1 t1 we (wipeD s vs1) (es.drop (j + 1)) out (fun acc' => lcO g t wj g1 t1 we vs1 (wipeD sd vs) (ds.drop (i + 1)) acc' Fin),
            fun H' ⟨acc, out, e1, e2, e3, e4⟩ => ⟨es.length - (j + 1), by omega, acc, out, e1, e2, e3, e4, rfl, hlt5⟩, fun x H' y => ?_⟩
          obtain ⟨rfl, dx5⟩ := yl5 x H' y
          refine ⟨c', wipeD s vs1, os2, es[j], hk, r5, by rw [← hk]; exact dx5, hg1 _ _ _ _ (fun s3 k σ3 os3 r3 b3 => ⟨?_, ?_⟩) q5⟩
          · rw [wipe_but b3 hsub1, wipe_idem]
          · refine ⟨c', s3, os3, hk, r3, ht1 _ _ _ (fun b kb H6 x6 => ?_) k⟩
            cases b with
            | false =>
              show ∃ acc out, _
              exact ⟨acc, out, ⟨x6.st D _ nS hDa, DxAll.grow (S := c.S) rw5.sO x6 dacc, rw5.grow x6, x5.trans x6⟩, r5.grow x6, fun b o h => hid_same (fun a o n e => x6.st a o (fun z => n (r5.sO a z)) e) (fun a m => .inl m) b o (sm b o h), kb⟩
            | true =>
              refine ⟨c', s3, os3, hk, r3.grow x6, he _ _ _ (fun z kz y H7 x7 rv => ?_) kb⟩
              have x67 := x6.trans x7
              have a7 := x67.st D _ nS hDa
              obtain ⟨kl, kz⟩ := kz
              refine ⟨acc, a7, by rw [dacc.len]; exact kl, acc ++ [y], out ++ [z.dat], ⟨upd_same, ?_, (rw5.grow x67).updO hDm nS h0 own_lst, ext_upd (x5.trans x67) hD nS⟩, (r5.grow x67).updO hDm nS h0 own_lst, ?_, kz⟩
              · rw [hid_upd (mem_OO.mpr (.inl hDm))]
                refine (DxAll.grow (S := c.S) rw5.sO x67 dacc).app (.cons ?_ .nil)
                have dz := RvR.cl rv fun b m => (r3.grow x6).there m
                rw [hk]
                refine Dx.same (hid_same (fun _ _ _ h => h) fun b m => .inl ?_) _ _ dz
                rcases mem_OO.mp m with z | z
                · exact mem_OO.mpr (.inl z)
                · obtain ⟨j', hj', ej⟩ := List.getElem_of_mem z
                  have e1 : os[j']? = some (some b) := by rw [List.getElem?_eq_getElem hj', ej]
                  have nj : j' ∉ is := fun mi => hos j' (hsub j' mi) b e1
                  have nj1 : j' ∉ is1 := fun mi => hos j' (hv1 j' (hsub1 j' mi)) b e1
                  exact mem_OO.mpr (.inr (List.mem_of_getElem? (((b3.2 j' nj1).2.trans (b2.2 j' nj).2).trans e1)))
              · rw [hid_upd (mem_OO.mpr (.inl hDm))]
                exact fun b o h => hid_same (fun a o n e => x67.st a o (fun z => n (r5.sO a z)) e) (fun a m => .inl m) b o (sm b o h)
        · have ej : j = es.length := by omega
          subst ej
          rw [List.drop_length] at q5
          exact .inl ⟨ok5.2 _ (Nat.le_refl _), acc, out, ⟨hDa, dacc, rw5, x5⟩, q5⟩
  · have e : i = ds.length := by omega
    subst e
    rw [List.drop_length] at q
    refine .inl ⟨ok.2 _ (Nat.le_refl _), ?_⟩
    exact q _ H x1 ⟨D, acc, rfl, hD, hDa, by rw [← hk]; exact dacc⟩
end
end DL

set_option Elab.async false
set_option linter.all false
set_option maxRecDepth 100000
set_option maxHeartbeats 4000000
/-! comprehensions with two clauses, as expressions -/
namespace DL
open PySem PySem.Spec PyProof.Rows L2
variable [Tb]
section
variable {X : Cx} {e tg iter tg1 iter1 elt : Expr} {ifs ifs1 : List Expr} {pos p : Pos} {g g1 : WG} {t t1 : WB} {wi wj : WD} {we : WR} {is is1 vs1 : List Nat} {scope : Scope} {own : List (Str × Nat)}
theorem seq_in {K : PySem.W.Frag} {te : TE} (hte : ∀ σ H Q, tM .cl K wj σ H Q → te σ H Q) (hmo : ∀ sd (Q Q' : PyData → Prop), (∀ r, Q r → Q' r) → wj sd Q → wj sd Q')
    (c' : Cd) (s : SD) (os2 : List (Option Addr)) (σ2 : L2.St) (H3 : Hp) (F : It → Hp → Prop) (hk : c'.K = K) (r : R c' s os2 σ2 H3)
    (q : wj s (fun e => dItems e fun es => ∀ J1 H4, Ext c'.S H3 H4 → (∀ H2, Same (hid (OO c' os2) H4) (hid (OO c' os2) H2) → ItOk c'.K J1 es (OO c' os2) H2) → F J1 H4)) :
    te σ2 H3 fun x H1 => (∃ a xs, x = V.ref a ∧ SqL K H1 a xs ∧ F (Itl K a) H1) ∨ ∃ a xs, x = V.ref a ∧ SqT K H1 a xs ∧ F (Itt K a) H1 := by
  refine hte _ _ _ ⟨c', s, os2, hk, r, hmo _ _ _ (fun d kz v H1 x1 dm => ?_) q⟩
  cases d with
  | list ds =>
    cases dm with
    | lst d1 d2 =>
    refine .inl ⟨_, _, rfl, .inl (.inl (hid_some d1).2), kz _ _ x1 fun H2 sm => ?_⟩
    rw [hk]
    exact it_l (hid_some (sm _ _ d1)).2 (DxAll.same sm _ _ d2)
  | tuple ds =>
    cases dm with
    | tup d1 d2 =>
    refine .inr ⟨_, _, rfl, SqT.same hid_sub d1, kz _ _ x1 fun H2 sm => ?_⟩
    rw [hk]
    exact it_t (SqT.same hid_sub (SqT.same sm d1)) (DxAll.same sm _ _ d2)
  | _ => exact kz.elim
/-- a comprehension of two clauses, by its parts -/
structure EvC2 (X : Cx) (elt tg iter tg1 iter1 : Expr) (ifs ifs1 : List Expr) (scope : Scope) (w : WR) : Prop where
  ex : ∃ (own : List (Str × Nat)) (vs1 : List Nat) (wi wi1 : TI) (g g1 : TG) (tt tt1 : TT) (te : TE), PI X tg iter wi ∧ BlkOk X.N X.env.scope scope own ∧ (∀ i ∈ vs1, i ∈ own.map (·.2)) ∧
    (∀ (s : Shared) (H : Hp) (C : Addr) (cl : List (Str × Addr)) (fp : List Addr), PG (X.blk s H scope (compEnvC scope cl C X.env) fp) tg g) ∧
    (∀ (s : Shared) (H : Hp) (C : Addr) (cl : List (Str × Addr)) (fp : List Addr), PTs (X.blk s H scope (compEnvC scope cl C X.env) fp) ifs tt) ∧
    (∀ (s : Shared) (H : Hp) (C : Addr) (cl : List (Str × Addr)) (fp : List Addr), PI (X.blk s H scope (compEnvC scope cl C X.env) fp) tg1 iter1 wi1) ∧
    (∀ (s : Shared) (H : Hp) (C : Addr) (cl : List (Str × Addr)) (fp : List Addr), PG (X.blk s H scope (compEnvC scope cl C X.env) fp) tg1 g1) ∧
    (∀ (s : Shared) (H : Hp) (C : Addr) (cl : List (Str × Addr)) (fp : List Addr), PTs (X.blk s H scope (compEnvC scope cl C X.env) fp) ifs1 tt1) ∧
    (∀ (s : Shared) (H : Hp) (C : Addr) (cl : List (Str × Addr)) (fp : List Addr), PE (X.blk s H scope (compEnvC scope cl C X.env) fp) elt te) ∧
    (∀ x, foldedSetIterable iter X.env x = pure x) ∧ (∀ env x, foldedSetIterable iter1 env x = pure x) ∧ ∀ σ H Q, tR X.K w σ H Q → tLc2 wi g tt wi1 g1 tt1 te (own.map (·.2)) vs1 σ H Q
  mo : ∀ sd (Q Q' : RV → Prop), (∀ r, Q r → Q' r) → w sd Q → w sd Q'
theorem EvC2.rv {w : WR} (h : EvC2 X elt tg iter tg1 iter1 ifs ifs1 scope w) (hc : X.calm = true) (hN : X.N.Nodup) : EvR X (.ListComp elt [⟨tg, iter, ifs, 0⟩, ⟨tg1, iter1, ifs1, 0⟩] scope pos) w where
  pe := by
    obtain ⟨own, vs1, wi, wi1, g, g1, tt, tt1, te, h1, h2, h0, h3, h4, h5, h6, h7, h8, h9, h10, h11⟩ := h.ex
    exact PE.weak (pe_lc2 hc hN h1 h2 h0 h3 h4 h5 h6 h7 h8 h9 h10) h11
  mo := h.mo
theorem evs_setLC2 {w : WR} {py : Pos} {spos : Pos} {y : Str} (i : Nat) (h : EvC2 X elt tg iter tg1 iter1 ifs ifs1 scope w) (hc : X.calm = true) (hN : X.N.Nodup) (hy : X.N[i]? = some y := by rfl) (hyl : X.env.scope.names.lookup y = some .local := by rfl)
    (hsw : swapsWith (.ListComp elt [⟨tg, iter, ifs, 0⟩, ⟨tg1, iter1, ifs1, 0⟩] scope pos) (some (.Name y py)) spos.line X.env = pure true := by exact sw_true rfl rfl rfl (by decide +kernel)) :
    EvS X (.Assign [.Name y py] (.ListComp elt [⟨tg, iter, ifs, 0⟩, ⟨tg1, iter1, ifs1, 0⟩] scope pos) spos) (fun E sd => w sd fun z => E.nx (sd.set i z.sv)) where
  ps := by
    obtain ⟨own, vs1, wi, wi1, g, g1, tt, tt1, te, h1, h2, h0, h3, h4, h5, h6, h7, h8, h9, h10, h11⟩ := h.ex
    refine PS.weak (ps_setLc2 hc hN hy hyl hsw h1 h2 h0 h3 h4 h5 h6 h7 h8 h9 h10) fun D σ H ⟨c, sd, os, E, hk, r, er, q⟩ => ?_
    refine h11 σ H _ ⟨c, sd, os, hk, r, h.mo _ _ _ (fun z kz v H' x rv => ?_) q⟩
    obtain ⟨oa, r'⟩ := R.set (i := i) r x (by rw [hk]; exact rv)
    exact er.nx _ _ _ _ r' kz
  mo := fun E E' sd h1 _ _ _ q => h.mo _ _ _ (fun z y => h1 _ y) q
/-- [elt for tg in iter if .. for tg1 in iter1 if ..], both over lists or tuples -/
theorem evc_lc2 (vs1 : List Nat) (h : Ev .sh X iter wi) (ok : BlkOk X.N X.env.scope scope own)
    (hg : ∀ (s : Shared) (H : Hp) (C : Addr) (cl : List (Str × Addr)) (fp : List Addr), EvG (X.blk s H scope (compEnvC scope cl C X.env) fp) tg is g)
    (ht : ∀ (s : Shared) (H : Hp) (C : Addr) (cl : List (Str × Addr)) (fp : List Addr), EvI (X.blk s H scope (compEnvC scope cl C X.env) fp) ifs t)
    (h1 : ∀ (s : Shared) (H : Hp) (C : Addr) (cl : List (Str × Addr)) (fp : List Addr), Ev .cl (X.blk s H scope (compEnvC scope cl C X.env) fp) iter1 wj)
    (hg1 : ∀ (s : Shared) (H : Hp) (C : Addr) (cl : List (Str × Addr)) (fp : List Addr), EvG (X.blk s H scope (compEnvC scope cl C X.env) fp) tg1 is1 g1)
    (ht1 : ∀ (s : Shared) (H : Hp) (C : Addr) (cl : List (Str × Addr)) (fp : List Addr), EvI (X.blk s H scope (compEnvC scope cl C X.env) fp) ifs1 t1)
    (he : ∀ (s : Shared) (H : Hp) (C : Addr) (cl : List (Str × Addr)) (fp : List Addr), EvR (X.blk s H scope (compEnvC scope cl C X.env) fp) elt we)
    (hsub : ∀ i ∈ is, i ∈ own.map (·.2) := by decide) (hsub1 : ∀ i ∈ is1, i ∈ vs1 := by decide) (hv1 : ∀ i ∈ vs1, i ∈ own.map (·.2) := by decide) (hs : ∀ x, foldedSetIterable iter X.env x = pure x := by intro _; rfl) (hs1 : ∀ env x, foldedSetIterable iter1 env x = pure x := by intro _ _; rfl) :
    EvC2 X elt tg iter tg1 iter1 ifs ifs1 scope (fun sd Q => wi sd fun d => dItems d fun ds =>
      okVs sd (own.map (·.2)) = true ∧ lcO g t wj g1 t1 we vs1 (wipeD sd (own.map (·.2))) ds [] fun out => Q (.fr out)) where
  ex := ⟨own, vs1, _, _, _, _, _, _, _, pi_seq h.pe, ok, hv1, fun s H C cl fp => (hg s H C cl fp).pg, fun s H C cl fp => (ht s H C cl fp).pt, fun s H C cl fp => pi_seq (h1 s H C cl fp).pe, fun s H C cl fp => (hg1 s H C cl fp).pg, fun s H C cl fp => (ht1 s H C cl fp).pt, fun s H C cl fp => (he s H C cl fp).pe, hs, hs1,
    fun σ H Q ⟨c, sd, os, hk, r, q⟩ => by
    have hg' := (hg X.s_0 X.H_0 0 [] []).mo
    have ht' := (ht X.s_0 X.H_0 0 [] []).mo
    have hi' := (h1 X.s_0 X.H_0 0 [] []).mo
    have hg1' := (hg1 X.s_0 X.H_0 0 [] []).mo
    have ht1' := (ht1 X.s_0 X.H_0 0 [] []).mo
    have he' := (he X.s_0 X.H_0 0 [] []).mo
    refine ⟨c, sd, os, hk, r, h.mo _ _ _ (fun d kz v H1 x1 dm => ?_) q⟩
    have rr := r.grow x1
    cases d with
    | list ds =>
      obtain ⟨k1, k3⟩ := kz
      obtain ⟨a, xs, rfl, d1, d2⟩ := dm
      refine .inl ⟨a, xs, rfl, .inl (.inl (hid_some d1).2), fun D hD => lc_run2 hg' ht' hi' hg1' ht1' he' (seq_in (fun _ _ _ z => z) hi') hk rr hD (okVs_all k1) hsub hsub1 hv1 (fun H2 x2 => ?_)
        (lcO_mo hg' ht' hi' hg1' ht1' he' _ _ _ _ _ (fun out kq v' H' x' rv => kq v' H' (x1.trans x') (RvR.from r.sO (fun b m => rr.there m) x1 rv)) k3)⟩
      rw [hk]
      refine it_l (x2.st a _ (hid_some d1).1 (hid_some d1).2) (DxAll.same (hid_same (fun b o n e => x2.st b o (fun z => n (r.sO b z)) e) fun b m => ?_) _ _ d2)
      rcases mem_OO.mp m with z | z
      · rcases List.mem_cons.mp z with rfl | z
        · exact .inr hD
        · exact .inl (mem_OO.mpr (.inl z))
      · exact .inl (mem_OO.mpr (.inr z))
    | tuple ds =>
      obtain ⟨k1, k3⟩ := kz
      obtain ⟨a, xs, rfl, d1, d2⟩ := shTup dm
      refine .inr ⟨a, xs, rfl, SqT.same hid_sub d1, fun D hD => lc_run2 hg' ht' hi' hg1' ht1' he' (seq_in (fun _ _ _ z => z) hi') hk rr hD (okVs_all k1) hsub hsub1 hv1 (fun H2 x2 => ?_)
        (lcO_mo hg' ht' hi' hg1' ht1' he' _ _ _ _ _ (fun out kq v' H' x' rv => kq v' H' (x1.trans x') (RvR.from r.sO (fun b m => rr.there m) x1 rv)) k3)⟩
      rw [hk]
      have sub : Same (hid (OO c os) H1) (hid (OO { c with Oc := D :: c.Oc } os) H2) := hid_same (fun b o n e => x2.st b o (fun z => n (r.sO b z)) e) fun b m => by
        rcases mem_OO.mp m with z | z
        · rcases List.mem_cons.mp z with rfl | z
          · exact .inr hD
          · exact .inl (mem_OO.mpr (.inl z))
        · exact .inl (mem_OO.mpr (.inr z))
      exact it_t (SqT.same hid_sub (SqT.same sub d1)) (DxAll.same sub _ _ d2)
    | _ => exact kz.elim⟩
  mo := fun sd Q Q' k q => h.mo _ _ _ (fun d z => dItems_mo (fun ds z => ⟨z.1, lcO_mo (hg X.s_0 X.H_0 0 [] []).mo (ht X.s_0 X.H_0 0 [] []).mo (h1 X.s_0 X.H_0 0 [] []).mo (hg1 X.s_0 X.H_0 0 [] []).mo (ht1 X.s_0 X.H_0 0 [] []).mo (he X.s_0 X.H_0 0 [] []).mo _ _ _ _ _ (fun r y => k _ y) z.2⟩) z) q
end
end DL

set_option Elab.async false
set_option linter.all false
set_option maxRecDepth 100000
set_option maxHeartbeats 4000000
/-! comprehensions with two clauses, as computed runs -/
namespace DL
open PySem PySem.Spec PyProof.Rows L2
variable [Tb]
def lcXO (g : XT) (t : XE Bool) (fi : XE PyData) (g1 : XT) (t1 : XE Bool) (f : XE RV) (vs1 : List Nat) (sd : SD) : List PyData → Option (List PyData)
  | [] => some []
  | d :: ds => ob (g d sd) fun s2 => ob (t s2) fun b => match b with
    | true => ob (fi s2) fun e => ob (itemsD e) fun es => oif (okVs s2 vs1) (ob (lcX g1 t1 f (wipeD s2 vs1) es) fun fs => ob (lcXO g t fi g1 t1 f vs1 sd ds) fun rest => some (fs ++ rest))
    | false => lcXO g t fi g1 t1 f vs1 sd ds
theorem ylcI {g : WG} {t : WB} {w : WR} {fg : XT} {ft : XE Bool} {f : XE RV} (hg : WyG g fg) (ht : Wy t ft) (h : Wy w f) {sd : SD} : ∀ (ds acc fs : List PyData), lcX fg ft f sd ds = some fs → acc.length + fs.length ≤ sizeLine → ∀ Q : List PyData → Prop, Q (acc ++ fs) → lcI g t w sd ds acc Q
  | [], acc, fs, e, hl, Q, q => by
    cases e
    rw [List.append_nil] at q
    exact q
  | d :: ds, acc, fs, e, hl, Q, q => by
    obtain ⟨s2, h1, e⟩ := ob_get (show ob (fg d sd) _ = _ from e)
    obtain ⟨b, h2, e⟩ := ob_get e
    refine hg d sd s2 h1 _ (ht s2 b h2 _ ?_)
    cases b with
    | true =>
      obtain ⟨z, h3, e⟩ := ob_get e
      obtain ⟨o2, h4, e⟩ := ob_get e
      cases e
      simp only [List.length_cons] at hl
      refine h s2 z h3 _ ⟨by omega, ylcI hg ht h ds (acc ++ [z.dat]) o2 h4 ?_ Q ?_⟩
      · rw [List.length_append]; simp only [List.length_cons, List.length_nil]; omega
      · rw [List.append_assoc]; exact q
    | false => exact ylcI hg ht h ds acc fs e hl Q q
theorem ylcO {g g1 : WG} {t t1 : WB} {wi : WD} {w : WR} {fg fg1 : XT} {ft ft1 : XE Bool} {fi : XE PyData} {f : XE RV} {vs1 : List Nat} (hg : WyG g fg) (ht : Wy t ft) (hi : Wy wi fi) (hg1 : WyG g1 fg1) (ht1 : Wy t1 ft1) (h : Wy w f) {sd : SD} : ∀ (ds acc rest : List PyData), lcXO fg ft fi fg1 ft1 f vs1 sd ds = some rest → acc.length + rest.length ≤ sizeLine → ∀ Q : List PyData → Prop, Q (acc ++ rest) → lcO g t wi g1 t1 w vs1 sd ds acc Q
  | [], acc, fs, e, hl, Q, q => by
    cases e
    rw [List.append_nil] at q
    exact q
  | d :: ds, acc, fs, e, hl, Q, q => by
    obtain ⟨s2, h1, e⟩ := ob_get (show ob (fg d sd) _ = _ from e)
    obtain ⟨b, h2, e⟩ := ob_get e
    refine hg d sd s2 h1 _ (ht s2 b h2 _ ?_)
    cases b with
    | true =>
      obtain ⟨e0, h3, e⟩ := ob_get e
      obtain ⟨es, h4, e⟩ := ob_get e
      obtain ⟨h5, e⟩ := oif_get e
      obtain ⟨f0, h6, e⟩ := ob_get e
      obtain ⟨r0, h7, e⟩ := ob_get e
      cases e
      rw [List.length_append] at hl
      refine hi s2 e0 h3 _ (zItems e0 es h4 _ ⟨h5, ylcI hg1 ht1 h es acc f0 h6 (by omega) _ (ylcO hg ht hi hg1 ht1 h ds (acc ++ f0) r0 h7 ?_ Q ?_)⟩)
      · rw [List.length_append]; omega
      · rw [List.append_assoc]; exact q
    | false => exact ylcO hg ht hi hg1 ht1 h ds acc fs e hl Q q
def xLc2 (vs vs1 : List Nat) (f0 : XE PyData) (g : XT) (t : XE Bool) (fi : XE PyData) (g1 : XT) (t1 : XE Bool) (f : XE RV) : XE RV := fun sd => ob (f0 sd) fun d => ob (itemsD d) fun ds => oif (okVs sd vs) (ob (lcXO g t fi g1 t1 f vs1 (wipeD sd vs) ds) fun out => oif (lenOk out) (some (.fr out)))
theorem yLc2 {vs vs1 : List Nat} {w0 wi : WD} {f0 fi : XE PyData} {g g1 : WG} {t t1 : WB} {w : WR} {fg fg1 : XT} {ft ft1 : XE Bool} {f : XE RV} (h0 : Wy w0 f0) (hg : WyG g fg) (ht : Wy t ft) (hi : Wy wi fi) (hg1 : WyG g1 fg1) (ht1 : Wy t1 ft1) (h : Wy w f) :
    Wy (fun sd Q => w0 sd fun d => dItems d fun ds => okVs sd vs = true ∧ lcO g t wi g1 t1 w vs1 (wipeD sd vs) ds [] fun out => Q (RV.fr out)) (xLc2 vs vs1 f0 fg ft fi fg1 ft1 f) := fun sd b e Q q => by
  obtain ⟨d, h1, e⟩ := ob_get e
  obtain ⟨ds, h2, e⟩ := ob_get e
  obtain ⟨h3, e⟩ := oif_get e
  obtain ⟨out, h4, e⟩ := ob_get e
  obtain ⟨h5, e⟩ := oif_get e
  cases e
  refine h0 sd d h1 _ (zItems d ds h2 _ ⟨h3, ylcO hg ht hi hg1 ht1 h ds [] out h4 ?_ _ q⟩)
  rw [List.length_nil, Nat.zero_add]
  exact Nat.le_of_ble_eq_true h5
section
variable {sd : SD} {f0 fi : XE PyData} {g g1 : XT} {t t1 : XE Bool} {f : XE RV} {vs vs1 : List Nat} {d : PyData} {ds out : List PyData}
theorem eLc2 (h : f0 sd = some d) (h2 : itemsD d = some ds) (h3 : okVs sd vs = true) (q : lcXO g t fi g1 t1 f vs1 (wipeD sd vs) ds = some out) (hl : lenOk out = true) : xLc2 vs vs1 f0 g t fi g1 t1 f sd = some (.fr out) := eob h (eob h2 (eoif h3 (eob q (eoif hl rfl))))
theorem lcXO_mapV {α : Type} (to : α → PyData) (F : α → List PyData) : ∀ xs : List α, (∀ a ∈ xs, ∃ s2 e es, g (to a) sd = some s2 ∧ t s2 = some true ∧ fi s2 = some e ∧ itemsD e = some es ∧ okVs s2 vs1 = true ∧ lcX g1 t1 f (wipeD s2 vs1) es = some (F a)) → lcXO g t fi g1 t1 f vs1 sd (xs.map to) = some (xs.flatMap F)
  | [], _ => rfl
  | a :: xs, h => by
    obtain ⟨s2, e, es, h1, h2, h3, h4, h5, h6⟩ := h a List.mem_cons_self
    have ih := lcXO_mapV to F xs fun a m => h a (List.mem_cons_of_mem _ m)
    show ob (g (to a) sd) _ = _
    rw [h1, ob_some, h2, ob_some]
    show ob (fi s2) _ = _
    rw [h3, ob_some, h4, ob_some, h5]
    show ob (lcX g1 t1 f (wipeD s2 vs1) es) _ = _
    rw [h6, ob_some, ih, ob_some, List.flatMap_cons]
end
end DL

set_option Elab.async false
set_option linter.all false
set_option maxRecDepth 100000
set_option maxHeartbeats 4000000
/-! dicts: made, filled, asked -/
namespace DL
open PySem PySem.Spec PyProof.Rows L2
variable [Tb]
def putD (es : List (PyData × PyData)) (k v : PyData) : List (PyData × PyData) :=
  if (es.any fun p => p.1.eqv k) = true then es.map (fun p => if p.1.eqv k = true then (p.1, v) else p) else es ++ [(k, v)]
def KR (K : PySem.W.Frag) (H : Hp) : List (Key × V) → List (PyData × PyData) → Prop
  | [], [] => True
  | p :: ps, q :: qs => (q.1 = keyD p.1 ∧ Dx K H p.2 q.2) ∧ KR K H ps qs
  | [], _ :: _ => False
  | _ :: _, [] => False
section
variable {K : PySem.W.Frag} {H H' : Hp} {o : HO}
theorem KR.keys : ∀ {kvs : List (Key × V)} {es : List (PyData × PyData)}, KR K H kvs es → es.map (·.1) = kvs.map (fun p => keyD p.1)
  | [], [], _ => rfl
  | p :: ps, q :: qs, h => by rw [List.map_cons, List.map_cons, h.1.1, KR.keys h.2]
  | [], _ :: _, h => h.elim
  | _ :: _, [], h => h.elim
theorem KR.vals : ∀ {kvs : List (Key × V)} {es : List (PyData × PyData)}, KR K H kvs es → DxAll K H (kvs.map (·.2)) (es.map (·.2))
  | [], [], _ => .nil
  | p :: ps, q :: qs, h => .cons h.1.2 (KR.vals h.2)
  | [], _ :: _, h => h.elim
  | _ :: _, [], h => h.elim
theorem KR.mk : ∀ (kvs : List (Key × V)) (es : List (PyData × PyData)), es.map (·.1) = kvs.map (fun p => keyD p.1) → DxAll K H (kvs.map (·.2)) (es.map (·.2)) → KR K H kvs es
  | [], [], _, _ => trivial
  | p :: ps, q :: qs, e, h => by
    rw [List.map_cons, List.map_cons] at e h
    injection e with e1 e2
    cases h with
    | cons h1 h2 => exact ⟨⟨e1, h1⟩, KR.mk ps qs e2 h2⟩
  | [], _ :: _, e, _ => by cases e
  | _ :: _, [], e, _ => by cases e
theorem KR.de {kvs : List (Key × V)} {es : List (PyData × PyData)} (h : KR K H kvs es) : DE K H (.dK kvs) es := ⟨_, ⟨kvs, rfl, h.keys, rfl⟩, h.vals⟩
theorem DE.kr {es : List (PyData × PyData)} (h : DE K H o es) : ∃ kvs, o = .dK kvs ∧ KR K H kvs es := by
  obtain ⟨vs, ⟨kvs, rfl, e1, rfl⟩, h⟩ := h
  exact ⟨kvs, rfl, KR.mk kvs es e1 h⟩
theorem KR.same {kvs : List (Key × V)} {es : List (PyData × PyData)} (s : Same H H') (h : KR K H kvs es) : KR K H' kvs es := KR.mk _ _ h.keys (DxAll.same s _ _ h.vals)
theorem KR.len {kvs : List (Key × V)} {es : List (PyData × PyData)} (h : KR K H kvs es) : kvs.length = es.length := by
  have := congrArg List.length h.keys
  rw [List.length_map, List.length_map] at this
  exact this.symm
theorem KR.any (k : Key) : ∀ {kvs : List (Key × V)} {es : List (PyData × PyData)}, KR K H kvs es → (es.any fun p => p.1.eqv (keyD k)) = (kvs.any fun kv => decide (kv.1 = k))
  | [], [], _ => rfl
  | p :: ps, q :: qs, h => by rw [List.any_cons, List.any_cons, h.1.1, eqv_key, KR.any k h.2]
  | [], _ :: _, h => h.elim
  | _ :: _, [], h => h.elim
theorem KR.repl (k : Key) {v : V} {d : PyData} (hd : Dx K H v d) : ∀ {kvs : List (Key × V)} {es : List (PyData × PyData)}, KR K H kvs es →
    KR K H (kvs.map fun kv => if kv.1 = k then (kv.1, v) else kv) (es.map fun p => if p.1.eqv (keyD k) = true then (p.1, d) else p)
  | [], [], _ => trivial
  | p :: ps, q :: qs, h => by
    rw [List.map_cons, List.map_cons]
    refine ⟨?_, KR.repl k hd h.2⟩
    rw [h.1.1, eqv_key]
    by_cases z : p.1 = k
    · rw [if_pos z, if_pos (decide_eq_true z)]; exact ⟨rfl, hd⟩
    · rw [if_neg z, if_neg (by rw [decide_eq_false z]; exact Bool.false_ne_true)]; exact h.1
  | [], _ :: _, h => h.elim
  | _ :: _, [], h => h.elim
theorem KR.snoc {k : Key} {v : V} {d : PyData} (hd : Dx K H v d) : ∀ {kvs : List (Key × V)} {es : List (PyData × PyData)}, KR K H kvs es → KR K H (kvs ++ [(k, v)]) (es ++ [(keyD k, d)])
  | [], [], _ => ⟨⟨rfl, hd⟩, trivial⟩
  | p :: ps, q :: qs, h => ⟨h.1, KR.snoc hd h.2⟩
  | [], _ :: _, h => h.elim
  | _ :: _, [], h => h.elim
theorem KR.put {k : Key} {v : V} {d : PyData} {kvs : List (Key × V)} {es : List (PyData × PyData)} (h : KR K H kvs es) (hd : Dx K H v d) : KR K H (putK kvs k v) (putD es (keyD k) d) := by
  unfold putK putD
  rw [h.any k]
  split
  · exact h.repl k hd
  · exact h.snoc hd
end
section
variable {X : Cx} {a b e f tg iter kx vx : Expr} {ifs : List Expr} {scope : Scope} {own : List (Str × Nat)} {pos p apos cpos : Pos} {x : Str} {g : WG} {t : WB} {wk wv : WR} {is vs : List Nat}
/-- {} -/
theorem evr_dnew : EvR X (.Dict [] [] pos) (fun _ Q => Q (.fd [])) where
  pe := PE.weak pe_dnewK fun σ H Q ⟨c, sd, os, hk, r, q⟩ p hp => q _ _ (Ext.of (same_new hp)) ⟨p, .dK [], rfl, hp, upd_same, KR.de (kvs := []) (es := []) trivial⟩
  mo := fun sd Q Q' k q => k _ q
def onOd (i : Nat) (sd : SD) (k : List (PyData × PyData) → Prop) : Prop := match getS sd i with
  | .od es => k es
  | _ => False
theorem onOd_get {i : Nat} {sd : SD} {k : List (PyData × PyData) → Prop} (q : onOd i sd k) : ∃ es, getS sd i = .od es ∧ k es := by
  unfold onOd at q
  cases es : getS sd i with
  | od ds => rw [es] at q; exact ⟨ds, rfl, q⟩
  | un => rw [es] at q; exact q.elim
  | va d => rw [es] at q; exact q.elim
  | so => rw [es] at q; exact q.elim
  | fn _ => rw [es] at q; exact q.elim
  | ow _ => rw [es] at q; exact q.elim
theorem onOd_put {i : Nat} {sd : SD} {k : List (PyData × PyData) → Prop} {ds : List (PyData × PyData)} (e : getS sd i = .od ds) (q : k ds) : onOd i sd k := by
  unfold onOd; rw [e]; exact q
/-- d[k] = v, d a dict of one's own -/
def wDPut (i : Nat) (wk : WD) (wv : WR) : WS := fun E sd => wv sd fun z => onOd i sd fun es => wk sd fun k => isKey k = true ∧ es.length < sizeLine ∧ E.nx (sd.set i (.od (putD es k z.dat)))
theorem evs_dput {wk : WD} {wv : WR} {pos' : Pos} (i : Nat) (hu : X.A.units + 64 < cLine) (hkx : Ev .cl X kx wk) (hvx : EvR X vx wv) (hN : X.N[i]? = some x := by rfl)
    (hv : Vis X.env.scope x := by first | exact Or.inl rfl | exact Or.inr (Or.inl rfl) | exact Or.inr (Or.inr rfl))
    (hd : (x == ("__debug__" : Str)) = false := by decide) (hcd : (x == ("__classdict__" : Str)) = false := by decide)
    (hs : swapsWith vx (some (.Subscript (.Name x p) kx pos')) pos.line X.env = pure false := by rfl) :
    EvS X (.Assign [.Subscript (.Name x p) kx pos'] vx pos) (wDPut i wk wv) where
  ps := PS.weak (ps_dput (un1 hu) (pe_var hN hv hd hcd) hkx.pe hvx.pe hs) fun D σ H ⟨c, sd, os, E, hk, r, er, q⟩ => by
    refine ⟨c, sd, os, hk, r, hvx.mo _ _ _ (fun z kz y H1 x1 rv => ?_) q⟩
    obtain ⟨es, g, kz⟩ := onOd_get kz
    have r1 := r.grow x1
    have dz := RvR.cl rv fun b m => r.there m
    obtain ⟨v, oa, h1, h2, a, o, rfl, rfl, h3, h4, h5⟩ := r1.at_ g (by intro z; cases z)
    have na := own_notS r1 (List.mem_of_getElem? h2)
    refine ⟨_, h1, c, sd, os, hk, r1, hkx.mo _ _ _ (fun k kk u H3 x3 dk => ?_) kz⟩
    obtain ⟨kv, rfl⟩ := isKey_get kk.1
    obtain ⟨kvs, rfl, kr⟩ := h4.kr
    have dk : Dx X.K (hid (OO c os) H3) u (keyD kv) := dk
    have g3 := x3.st a _ na h3
    have kr3 := KR.same (hid_same (fun a o n e => x3.st a o (fun z => n (r1.sO a z)) e) fun a m => .inl m) kr
    have dz3 : Dx c.K (hid (OO c os) H3) y z.dat := by rw [hk]; exact Dx.grow r1.sO x3 dz
    rw [dx_key dk]
    refine ⟨a, _, rfl, DPut.k g3 (by rw [kr.len]; exact kk.2.1), ?_⟩
    exact er.nx _ _ _ _ (R.updD (r1.grow x3) h2 (kr3.put dz3).de) kk.2.2
  mo := fun E E' sd h1 _ _ _ q => hvx.mo _ _ _ (fun z y => by
    obtain ⟨es, g, y⟩ := onOd_get y
    exact onOd_put g (hkx.mo _ _ _ (fun k y => ⟨y.1, y.2.1, h1 _ y.2.2⟩) y)) q
/-- d.get(k, x) -/
def onDct (d : PyData) (k : List (PyData × PyData) → Prop) : Prop := match d with
  | .dict es => k es
  | _ => False
def wDGet (wo wk wf : WD) : WR := fun sd Q => wo sd fun d => onDct d fun es => wk sd fun k => wf sd fun z => isKey k = true ∧ Q (.va ((lookD es k).getD z))
theorem evr_dget {wo wk wf : WD} (hu : X.A.units + 64 < cLine) (ho : Ev .sh X a wo) (hkx : Ev .cl X e wk) (hf : Ev .cl X f wf) (m : M2 X a "get" apos e f cpos := by exact ⟨rfl, rfl, rfl, rfl⟩) :
    EvR X (.Call (.Attribute a "get" apos) [e, f] [] cpos) (wDGet wo wk wf) where
  pe := PE.weak (pe_dget2 (un1 hu) ho.pe hkx.pe hf.pe m) fun σ H Q ⟨c, sd, os, hk, r, q⟩ => by
    refine ⟨c, sd, os, hk, r, ho.mo _ _ _ (fun d kd v H1 x1 dm => ?_) q⟩
    cases d with
    | dict es =>
      obtain ⟨a, o, rfl, h1, h2⟩ := dm
      obtain ⟨kvs, rfl, kr⟩ := h2.kr
      obtain ⟨nS, h1⟩ := hid_some h1
      have r1 := r.grow x1
      refine ⟨a, rfl, .inl ⟨kvs, .inl h1⟩, c, sd, os, hk, r1, hkx.mo _ _ _ (fun k kk u H2 x2 dk => ⟨c, sd, os, hk, r1.grow x2, hf.mo _ _ _ (fun z kz w H3 x3 dz => ?_) kk⟩) kd⟩
      obtain ⟨kv, rfl⟩ := isKey_get kz.1
      have dk : Dx X.K (hid (OO c os) H2) u (keyD kv) := dk
      have x23 := x2.trans x3
      rw [dx_key dk]
      refine ⟨_, DGet.k (x23.st a _ nS h1), ?_⟩
      have kr3 := KR.same (hid_same (fun a o n e => x23.st a o (fun z => n (r1.sO a z)) e) fun a m => .inl m) kr
      rcases lookD_val kv kvs es kr3.keys kr3.vals with ⟨e1, e2⟩ | ⟨v, d, e1, e2, e3⟩
      · rw [e1]
        have kz := kz.2
        rw [e2] at kz
        exact kz w H3 (x1.trans x23) dz
      · rw [e1]
        have kz := kz.2
        rw [e2] at kz
        exact kz v H3 (x1.trans x23) e3
    | _ => exact kd.elim
  mo := fun sd Q Q' k q => ho.mo _ _ _ (fun d z => by
    cases d with
    | dict es => exact hkx.mo _ _ _ (fun k1 y => hf.mo _ _ _ (fun z y => ⟨y.1, k _ y.2⟩) y) z
    | _ => exact z.elim) q
/-! ### a dict of pairs -/
def mergeD (es : List (PyData × PyData)) : List PyData → Option (List (PyData × PyData))
  | [] => some es
  | .tuple [k, v] :: ds => if isKey k = true then mergeD (putD es k v) ds else none
  | _ => none
def dDictP (d : PyData) (Q : RV → Prop) : Prop := match d with
  | .list ds => onSome (mergeD [] ds) fun es => Q (.fd es)
  | _ => False
theorem merge_rel {K : PySem.W.Frag} {H H' : Hp} (s : Same H H') : ∀ (xs : List V) (ds : List PyData), DxAll K H xs ds → ∀ (kvs : List (Key × V)) (es out : List (PyData × PyData)), KR K H kvs es → mergeD es ds = some out →
    ∃ (ps : List Addr) (prs : List (Key × V)), xs = ps.map V.ref ∧ Paired (fun p kv => SqT K H p [kV kv.1, kv.2]) ps prs ∧ KR K H (mergeK kvs prs) out
  | _, _, .nil, kvs, es, out, h, e => by cases e; exact ⟨[], [], rfl, .nil, h⟩
  | _, _, .cons (v := v) (vs := vs) (d := d) (ds := ds) h1 h2, kvs, es, out, h, e => by
    match d, h1, e with
    | .tuple [k, w], h1, e =>
      have e : (if isKey k = true then mergeD (putD es k w) ds else none) = some out := e
      by_cases kk : isKey k = true
      · rw [if_pos kk] at e
        obtain ⟨kv, rfl⟩ := isKey_get kk
        cases h1 with
        | @tup a xs _ hq h3 =>
          cases h3 with
          | @cons v1 vs1 _ _ g1 h4 =>
            cases h4 with
            | @cons v2 vs2 _ _ g2 h5 =>
              cases h5
              obtain ⟨ps, prs, rfl, hp, hr⟩ := merge_rel s vs ds h2 (putK kvs kv v2) (putD es (keyD kv) w) out (h.put g2) e
              refine ⟨a :: ps, (kv, v2) :: prs, rfl, .cons ?_ hp, hr⟩
              rw [dx_key g1] at hq
              exact hq
      · rw [if_neg kk] at e; cases e
theorem cd_dictP (hc : X.calm = true) : CallD X (.type "dict") .cl (rd1 dDictP) where
  ex := ⟨_, call_dictP hc, rd1_br fun S O H x d Q hs hO hd q => by
    unfold dDictP at q
    split at q
    · obtain ⟨es, em, q⟩ := onSome_get q
      cases hd with
      | @lst a xs ds h1 h2 =>
        obtain ⟨ps, prs, rfl, hp, hr⟩ := merge_rel (Same.refl _) _ _ h2 [] [] es trivial em
        refine ⟨a, ps, prs, rfl, .inl (.inl (hid_some h1).2), L2.Paired.mapP hp (fun p kv h => SqT.same hid_sub h), fun p hp' => q _ _ (same_new hp') ⟨p, _, rfl, hp', upd_same, DE.same ?_ hr.de⟩⟩
        exact hid_same (fun a o _ e => same_new hp' a o e) fun a m => by
          rcases List.mem_cons.mp m with rfl | m
          · exact .inr hp'
          · exact .inl m
    · exact q.elim⟩
  mo := rd1_mo fun d Q Q' k q => by
    unfold dDictP at q ⊢
    split at q
    · exact onSome_mo (fun es q => k _ q) q
    · exact q.elim
end
end DL

set_option Elab.async false
set_option linter.all false
set_option maxRecDepth 100000
set_option maxHeartbeats 4000000
/-! dict comprehensions -/
namespace DL
open PySem PySem.Spec PyProof.Rows L2
variable [Tb]
section
variable {X : Cx} {a b e f tg iter kx vx : Expr} {ifs : List Expr} {scope : Scope} {own : List (Str × Nat)} {pos p apos cpos : Pos} {x : Str} {g : WG} {t : WB} {wk : WD} {wv : WR} {is vs : List Nat}
def dcW (g : WG) (t : WB) (wk : WD) (wv : WR) (sd : SD) : List PyData → List (PyData × PyData) → (List (PyData × PyData) → Prop) → Prop
  | [], es, Q => Q es
  | d :: ds, es, Q => g d sd fun s2 => t s2 fun b => if b = true then wk s2 fun k => wv s2 fun z => isKey k = true ∧ dcW g t wk wv sd ds (putD es k z.dat) Q else dcW g t wk wv sd ds es Q
theorem dcW_mo (hg : ∀ d sd (Q Q' : SD → Prop), (∀ s, Q s → Q' s) → g d sd Q → g d sd Q') (ht : ∀ sd (Q Q' : Bool → Prop), (∀ r, Q r → Q' r) → t sd Q → t sd Q') (hk : ∀ sd (Q Q' : PyData → Prop), (∀ r, Q r → Q' r) → wk sd Q → wk sd Q')
    (he : ∀ sd (Q Q' : RV → Prop), (∀ r, Q r → Q' r) → wv sd Q → wv sd Q') (sd : SD) :
    ∀ (ds : List PyData) (es : List (PyData × PyData)) (Q Q' : List (PyData × PyData) → Prop), (∀ r, Q r → Q' r) → dcW g t wk wv sd ds es Q → dcW g t wk wv sd ds es Q'
  | [], es, Q, Q', k, q => k _ q
  | d :: ds, es, Q, Q', k, q => hg _ _ _ _ (fun s y => ht _ _ _ (fun b y => by
      cases b with
      | true => exact hk _ _ _ (fun kk y => he _ _ _ (fun z y => ⟨y.1, dcW_mo hg ht hk he sd ds _ _ _ k y.2⟩) y) y
      | false => exact dcW_mo hg ht hk he sd ds _ _ _ k y) y) q
theorem len_putD (es : List (PyData × PyData)) (k v : PyData) : (putD es k v).length ≤ es.length + 1 := by
  unfold putD
  split
  · rw [List.length_map]; omega
  · rw [List.length_append]; exact Nat.le_refl _
theorem dc_run {c : Cd} {sd : SD} {os : List (Option Addr)} {σ : L2.St} {H1 : Hp} {Q : VK} {J : It} {ds : List PyData} {D : Addr}
    (hg : ∀ d sd (Q Q' : SD → Prop), (∀ s, Q s → Q' s) → g d sd Q → g d sd Q') (ht : ∀ sd (Q Q' : Bool → Prop), (∀ r, Q r → Q' r) → t sd Q → t sd Q') (hkm : ∀ sd (Q Q' : PyData → Prop), (∀ r, Q r → Q' r) → wk sd Q → wk sd Q')
    (he : ∀ sd (Q Q' : RV → Prop), (∀ r, Q r → Q' r) → wv sd Q → wv sd Q')
    (hk : c.K = X.K) (r : R c sd os σ H1) (hD : H1 D = none) (hv : ∀ i ∈ vs, noOw (getS sd i) = true) (hsub : ∀ i ∈ is, i ∈ vs)
    (hJ : ∀ H2, Ext c.S H1 H2 → ItOk c.K J ds (OO { c with Oc := D :: c.Oc } os) H2) (hz : ds.length ≤ sizeLine)
    (q : dcW g t wk wv (wipeD sd vs) ds [] fun out => ∀ v H', Ext c.S H1 H' → RvR X.K (OO c os) H1 H' v (.fd out) → Q v H') :
    ∃ W : Nat → Nat → Hp → Prop, (∃ m, W 0 m (upd H1 D (.dK []))) ∧ ∀ i m H, W i m H →
      (J.stop i H ∧ Q (.ref D) H) ∨ (J.go i H ∧ ∃ Nx : Hp → Prop, (∀ H', Nx H' → ∃ m', m' < m ∧ W (i + 1) m' H') ∧ ∀ x H', J.yld i H x H' →
        tGt X.K is g x (wipe σ vs) H' fun σ2 H2 => wipe σ2 vs = wipe σ vs ∧ tTe X.K t σ2 H2 fun b H3 =>
          if b = true then tM .cl X.K wk σ2 H3 fun y H4 => tR X.K wv σ2 H4 fun z H5 => ∃ kvs k, y = kV k ∧ H5 D = some (.dK kvs) ∧ kvs.length < sizeLine ∧ Nx (upd H5 D (.dK (putK kvs k z))) else Nx H3) := by
  have nS : D ∉ c.S := fun z => r.srcNow.there D z hD
  have h0 : c.H0 D = none := by
    cases q : c.H0 D with
    | none => rfl
    | some o => rw [r.ext.st D o nS q] at hD; cases hD
  have hos : ∀ i ∈ vs, ∀ b, os[i]? ≠ some (some b) := fun i m b e => by
    obtain ⟨i', s0, o0, g1, g1', g2, g3, _⟩ := r.ownAt (List.mem_of_getElem? e)
    have ei := r.uniq _ _ _ g3 e
    subst ei
    have := hv i' m
    rw [getS_of g1, noOw_own g1'] at this
    cases this
  have rD := (r.hide (o := .dK []) (H' := upd H1 D (.dK [])) (Ext.of (same_new hD)) hD upd_same own_dK).wipe vs hv
  refine ⟨fun i m H => ∃ kvs out, H D = some (.dK kvs) ∧ KR c.K (hid (OO { c with Oc := D :: c.Oc } os) H) kvs out ∧ R { c with Oc := D :: c.Oc } (wipeD sd vs) os (wipe σ vs) H ∧ Ext c.S H1 H ∧
      dcW g t wk wv (wipeD sd vs) (ds.drop i) out (fun rest => ∀ v H', Ext c.S H1 H' → RvR X.K (OO c os) H1 H' v (.fd rest) → Q v H') ∧ m = ds.length - i ∧ i ≤ ds.length ∧ out.length ≤ i,
    ⟨_, [], [], upd_same, trivial, rD, Ext.of (same_new hD), q, rfl, Nat.zero_le _, Nat.le_refl _⟩, ?_⟩
  rintro i m H ⟨kvs, out, hDa, kr, rw', x1, q, rfl, hi, hl⟩
  have ok := hJ H x1
  by_cases hlt : i < ds.length
  · have eg := List.getElem?_eq_getElem hlt
    obtain ⟨go, yl⟩ := ok.1 i _ eg
    rw [List.drop_eq_getElem_cons hlt] at q
    refine .inr ⟨go, fun H' => ∃ kvs out, H' D = some (.dK kvs) ∧ KR c.K (hid (OO { c with Oc := D :: c.Oc } os) H') kvs out ∧ R { c with Oc := D :: c.Oc } (wipeD sd vs) os (wipe σ vs) H' ∧ Ext c.S H1 H' ∧
      dcW g t wk wv (wipeD sd vs) (ds.drop (i + 1)) out (fun rest => ∀ v H', Ext c.S H1 H' → RvR X.K (OO c os) H1 H' v (.fd rest) → Q v H') ∧ out.length ≤ i + 1,
      fun H' ⟨kvs, out, e1, e2, e3, e4, e5, e6⟩ => ⟨ds.length - (i + 1), by omega, kvs, out, e1, e2, e3, e4, e5, rfl, hlt, e6⟩, fun x H' y => ?_⟩
    obtain ⟨rfl, dx⟩ := yl x H' y
    refine ⟨{ c with Oc := D :: c.Oc }, wipeD sd vs, os, ds[i], hk, rw', by rw [← hk]; exact dx, hg _ _ _ _ (fun s k σ2 os2 r2 b2 => ⟨?_, ?_⟩) q⟩
    · rw [wipe_but b2 hsub, wipe_idem]
    · refine ⟨{ c with Oc := D :: c.Oc }, s, os2, hk, r2, ht _ _ _ (fun b kb H3 x3 => ?_) k⟩
      have back : ∀ (H : Hp) (v : V) (d : PyData), Dx X.K (hid (OO { c with Oc := D :: c.Oc } os2) H) v d → Dx c.K (hid (OO { c with Oc := D :: c.Oc } os) H) v d := fun H v d dz => by
        rw [hk]
        refine Dx.same (hid_same (fun _ _ _ h => h) fun b m => .inl ?_) _ _ dz
        rcases mem_OO.mp m with z | z
        · exact mem_OO.mpr (.inl z)
        · obtain ⟨j, hj, ej⟩ := List.getElem_of_mem z
          have e1 : os[j]? = some (some b) := by rw [List.getElem?_eq_getElem hj, ej]
          have nj : j ∉ is := fun mi => hos j (hsub j mi) b e1
          exact mem_OO.mpr (.inr (List.mem_of_getElem? ((b2.2 j nj).2.trans e1)))
      have grow : ∀ {H H' : Hp}, Ext c.S H H' → KR c.K (hid (OO { c with Oc := D :: c.Oc } os) H) kvs out → KR c.K (hid (OO { c with Oc := D :: c.Oc } os) H') kvs out := fun x h =>
        KR.same (hid_same (fun a o n e => x.st a o (fun z => n (rw'.sO a z)) e) fun a m => .inl m) h
      cases b with
      | false => exact ⟨kvs, out, x3.st D _ nS hDa, grow x3 kr, rw'.grow x3, x1.trans x3, kb, by omega⟩
      | true =>
        refine ⟨{ c with Oc := D :: c.Oc }, s, os2, hk, r2.grow x3, hkm _ _ _ (fun k kz y H4 x4 dk => ?_) kb⟩
        refine ⟨{ c with Oc := D :: c.Oc }, s, os2, hk, (r2.grow x3).grow x4, he _ _ _ (fun z kz w H5 x5 rv => ?_) kz⟩
        obtain ⟨kv, rfl⟩ := isKey_get kz.1
        have dk : Dx X.K (hid _ H4) y (keyD kv) := dk
        have x35 := (x3.trans x4).trans x5
        have a5 := x35.st D _ nS hDa
        have dz := back _ _ _ (RvR.cl rv fun b m => ((r2.grow x3).grow x4).there m)
        have hO : D ∈ OO { c with Oc := D :: c.Oc } os := mem_OO.mpr (.inl List.mem_cons_self)
        refine ⟨kvs, kv, dx_key dk, a5, by rw [kr.len]; omega, putK kvs kv w, putD out (keyD kv) z.dat, upd_same, ?_, (rw'.grow x35).updO List.mem_cons_self nS h0 own_dK, ext_upd (x1.trans x35) hD nS, kz.2, ?_⟩
        · rw [hid_upd hO]
          exact (grow x35 kr).put dz
        · have := len_putD out (keyD kv) z.dat
          omega
  · have e : i = ds.length := by omega
    subst e
    rw [List.drop_length] at q
    refine .inl ⟨ok.2 _ (Nat.le_refl _), ?_⟩
    exact q _ H x1 ⟨D, _, rfl, hD, hDa, by rw [← hk]; exact kr.de⟩
def wDc (wi : WD) (g : WG) (t : WB) (wk : WD) (wv : WR) (vs : List Nat) : WR := fun sd Q => wi sd fun d => dItems d fun ds =>
  (okVs sd vs = true ∧ ds.length ≤ sizeLine) ∧ dcW g t wk wv (wipeD sd vs) ds [] fun out => Q (.fd out)
/-- {k: v for tg in iter if ..} over a list or a tuple -/
theorem evr_dc {wi : WD} (hc : X.calm = true) (hN : X.N.Nodup) (h : Ev .sh X iter wi) (ok : BlkOk X.N X.env.scope scope own)
    (hg : ∀ (s : Shared) (H : Hp) (C : Addr) (cl : List (Str × Addr)) (fp : List Addr), EvG (X.blk s H scope (compEnvC scope cl C X.env) fp) tg is g)
    (ht : ∀ (s : Shared) (H : Hp) (C : Addr) (cl : List (Str × Addr)) (fp : List Addr), EvI (X.blk s H scope (compEnvC scope cl C X.env) fp) ifs t)
    (hkx : ∀ (s : Shared) (H : Hp) (C : Addr) (cl : List (Str × Addr)) (fp : List Addr), Ev .cl (X.blk s H scope (compEnvC scope cl C X.env) fp) kx wk)
    (he : ∀ (s : Shared) (H : Hp) (C : Addr) (cl : List (Str × Addr)) (fp : List Addr), EvR (X.blk s H scope (compEnvC scope cl C X.env) fp) vx wv)
    (hsub : ∀ i ∈ is, i ∈ own.map (·.2) := by decide) (hs : ∀ x, foldedSetIterable iter X.env x = pure x := by intro _; rfl) :
    EvR X (.DictComp kx vx [⟨tg, iter, ifs, 0⟩] scope pos) (wDc wi g t wk wv (own.map (·.2))) where
  pe := PE.weak (pe_dc hc hN (pi_seq h.pe) ok (fun s H C cl fp => (hg s H C cl fp).pg) (fun s H C cl fp => (ht s H C cl fp).pt) (fun s H C cl fp => (hkx s H C cl fp).pe) (fun s H C cl fp => (he s H C cl fp).pe) hs)
    fun σ H Q ⟨c, sd, os, hk, r, q⟩ => by
    have hg' := (hg X.s_0 X.H_0 0 [] []).mo
    have ht' := (ht X.s_0 X.H_0 0 [] []).mo
    have hk' := (hkx X.s_0 X.H_0 0 [] []).mo
    have he' := (he X.s_0 X.H_0 0 [] []).mo
    refine ⟨c, sd, os, hk, r, h.mo _ _ _ (fun d kz v H1 x1 dm => ?_) q⟩
    have rr := r.grow x1
    cases d with
    | list ds =>
      obtain ⟨⟨k1, k2⟩, k3⟩ := kz
      obtain ⟨a, xs, rfl, d1, d2⟩ := dm
      refine .inl ⟨a, xs, rfl, .inl (.inl (hid_some d1).2), fun D hD => dc_run hg' ht' hk' he' hk rr hD (okVs_all k1) hsub (fun H2 x2 => ?_) k2
        (dcW_mo hg' ht' hk' he' _ _ _ _ _ (fun out kq v' H' x' rv => kq v' H' (x1.trans x') (RvR.from r.sO (fun b m => rr.there m) x1 rv)) k3)⟩
      rw [hk]
      refine it_l (x2.st a _ (hid_some d1).1 (hid_some d1).2) (DxAll.same (hid_same (fun b o n e => x2.st b o (fun z => n (r.sO b z)) e) fun b m => ?_) _ _ d2)
      rcases mem_OO.mp m with z | z
      · rcases List.mem_cons.mp z with rfl | z
        · exact .inr hD
        · exact .inl (mem_OO.mpr (.inl z))
      · exact .inl (mem_OO.mpr (.inr z))
    | tuple ds =>
      obtain ⟨⟨k1, k2⟩, k3⟩ := kz
      obtain ⟨a, xs, rfl, d1, d2⟩ := shTup dm
      refine .inr ⟨a, xs, rfl, SqT.same hid_sub d1, fun D hD => dc_run hg' ht' hk' he' hk rr hD (okVs_all k1) hsub (fun H2 x2 => ?_) k2
        (dcW_mo hg' ht' hk' he' _ _ _ _ _ (fun out kq v' H' x' rv => kq v' H' (x1.trans x') (RvR.from r.sO (fun b m => rr.there m) x1 rv)) k3)⟩
      rw [hk]
      have sub : Same (hid (OO c os) H1) (hid (OO { c with Oc := D :: c.Oc } os) H2) := hid_same (fun b o n e => x2.st b o (fun z => n (r.sO b z)) e) fun b m => by
        rcases mem_OO.mp m with z | z
        · rcases List.mem_cons.mp z with rfl | z
          · exact .inr hD
          · exact .inl (mem_OO.mpr (.inl z))
        · exact .inl (mem_OO.mpr (.inr z))
      exact it_t (SqT.same hid_sub (SqT.same sub d1)) (DxAll.same sub _ _ d2)
    | _ => exact kz.elim
  mo := fun sd Q Q' k q => h.mo _ _ _ (fun d z => dItems_mo (fun ds z => ⟨z.1, dcW_mo (hg X.s_0 X.H_0 0 [] []).mo (ht X.s_0 X.H_0 0 [] []).mo (hkx X.s_0 X.H_0 0 [] []).mo (he X.s_0 X.H_0 0 [] []).mo _ _ _ _ _ (fun r y => k _ y) z.2⟩) z) q
/-! ### what can be computed of it -/
def xDnew : XE RV := fun _ => some (.fd [])
theorem yDnew : Wy (fun (_ : SD) (Q : RV → Prop) => Q (.fd [])) xDnew := fun sd b e Q q => by cases e; exact q
def putX (es : List (PyData × PyData)) (k v : PyData) : List (PyData × PyData) :=
  match es.any fun p => keyX p.1 k with
  | true => es.map (fun p => match keyX p.1 k with | true => (p.1, v) | false => p)
  | false => es ++ [(k, v)]
theorem putX_eq (es : List (PyData × PyData)) (k v : PyData) : putX es k v = putD es k v := by
  unfold putX putD
  simp only [keyX_eq]
  cases h : es.any fun p => p.1.eqv k with
  | true =>
    simp only [if_true]
    congr 1
    funext p
    cases p.1.eqv k <;> simp
  | false => simp
def xDPut (i : Nat) (fk : XE PyData) (fv : XE RV) : XS := fun sd => ob (fv sd) fun z => match getS sd i with
  | .od es => ob (fk sd) fun k => oif (isKey k && Nat.blt es.length sizeLine) (some (.nx (sd.set i (.od (putX es k z.dat)))))
  | _ => none
theorem yDPut {i : Nat} {wk : WD} {wv : WR} {fk : XE PyData} {fv : XE RV} (hk : Wy wk fk) (hv : Wy wv fv) : WyS (wDPut i wk wv) (xDPut i fk fv) := fun sd r e E q => by
  obtain ⟨z, h1, e⟩ := ob_get e
  refine hv sd z h1 _ ?_
  split at e
  · rename_i es g
    obtain ⟨k, h2, e⟩ := ob_get e
    obtain ⟨h3, e⟩ := oif_get e
    cases e
    rw [Bool.and_eq_true] at h3
    refine onOd_put g (hk sd k h2 _ ⟨h3.1, Nat.lt_of_lt_of_le (Nat.lt_of_succ_le (Nat.le_of_ble_eq_true h3.2)) (Nat.le_refl _), ?_⟩)
    rw [← putX_eq]
    exact q
  · cases e
def xDGet (fo fk ff : XE PyData) : XE RV := fun sd => ob (fo sd) fun d => match d with
  | .dict es => ob (fk sd) fun k => ob (ff sd) fun z => oif (isKey k) (some (.va ((lookX es k).getD z)))
  | _ => none
theorem yDGet {wo wk wf : WD} {fo fk ff : XE PyData} (ho : Wy wo fo) (hk : Wy wk fk) (hf : Wy wf ff) : Wy (wDGet wo wk wf) (xDGet fo fk ff) := fun sd b e Q q => by
  obtain ⟨d, h1, e⟩ := ob_get e
  refine ho sd d h1 _ ?_
  split at e
  · obtain ⟨k, h2, e⟩ := ob_get e
    obtain ⟨z, h3, e⟩ := ob_get e
    obtain ⟨h4, e⟩ := oif_get e
    cases e
    exact hk sd k h2 _ (hf sd z h3 _ ⟨h4, by rw [← lookX_eq]; exact q⟩)
  · cases e
def mergeX (es : List (PyData × PyData)) : List PyData → Option (List (PyData × PyData))
  | [] => some es
  | .tuple [k, v] :: ds => match isKey k with
    | true => mergeX (putX es k v) ds
    | false => none
  | _ => none
theorem mergeX_eq : ∀ (ds : List PyData) (es out : List (PyData × PyData)), mergeX es ds = some out → mergeD es ds = some out
  | [], es, out, h => h
  | d :: ds, es, out, h => by
    unfold mergeX at h
    split at h
    · rename_i e; cases e
    · rename_i k v ds' e
      cases e
      cases kk : isKey k with
      | true =>
        rw [kk] at h
        have h : mergeX (putX es k v) ds = some out := h
        show (if isKey k = true then mergeD (putD es k v) ds else none) = some out
        rw [if_pos kk, ← putX_eq]
        exact mergeX_eq ds _ _ h
      | false => rw [kk] at h; cases h
    · cases h
def gDictP : PyData → Option RV
  | .list ds => ob (mergeX [] ds) fun es => some (.fd es)
  | _ => none
theorem zDictP : Wy dDictP gDictP := fun d b e Q q => by
  unfold gDictP at e
  split at e
  · obtain ⟨es, h1, e⟩ := ob_get e
    cases e
    show onSome (mergeD [] _) _
    rw [mergeX_eq _ _ _ h1]
    exact q
  · cases e
def dcX (g : XT) (t : XE Bool) (fk : XE PyData) (fv : XE RV) (sd : SD) : List PyData → List (PyData × PyData) → Option (List (PyData × PyData))
  | [], es => some es
  | d :: ds, es => ob (g d sd) fun s2 => ob (t s2) fun b => match b with
    | true => ob (fk s2) fun k => ob (fv s2) fun z => oif (isKey k) (dcX g t fk fv sd ds (putX es k z.dat))
    | false => dcX g t fk fv sd ds es
theorem ydcX {g : WG} {t : WB} {wk : WD} {wv : WR} {fg : XT} {ft : XE Bool} {fk : XE PyData} {fv : XE RV} (hg : WyG g fg) (ht : Wy t ft) (hk : Wy wk fk) (hv : Wy wv fv) {sd : SD} : ∀ (ds : List PyData) (es out : List (PyData × PyData)), dcX fg ft fk fv sd ds es = some out → ∀ Q : List (PyData × PyData) → Prop, Q out → dcW g t wk wv sd ds es Q
  | [], es, out, e, Q, q => by cases e; exact q
  | d :: ds, es, out, e, Q, q => by
    obtain ⟨s2, h1, e⟩ := ob_get (show ob (fg d sd) _ = _ from e)
    obtain ⟨b, h2, e⟩ := ob_get e
    refine hg d sd s2 h1 _ (ht s2 b h2 _ ?_)
    cases b with
    | true =>
      obtain ⟨k, h3, e⟩ := ob_get e
      obtain ⟨z, h4, e⟩ := ob_get e
      obtain ⟨h5, e⟩ := oif_get e
      rw [putX_eq] at e
      exact hk s2 k h3 _ (hv s2 z h4 _ ⟨h5, ydcX hg ht hk hv ds _ out e Q q⟩)
    | false => exact ydcX hg ht hk hv ds _ out e Q q
def xDc (fi : XE PyData) (g : XT) (t : XE Bool) (fk : XE PyData) (fv : XE RV) (vs : List Nat) : XE RV := fun sd => ob (fi sd) fun d => ob (itemsD d) fun ds => oif (okVs sd vs && lenOk ds) (ob (dcX g t fk fv (wipeD sd vs) ds []) fun out => some (.fd out))
theorem yDc {vs : List Nat} {wi : WD} {fi : XE PyData} {g : WG} {t : WB} {wk : WD} {wv : WR} {fg : XT} {ft : XE Bool} {fk : XE PyData} {fv : XE RV} (hi : Wy wi fi) (hg : WyG g fg) (ht : Wy t ft) (hk : Wy wk fk) (hv : Wy wv fv) :
    Wy (wDc wi g t wk wv vs) (xDc fi fg ft fk fv vs) := fun sd b e Q q => by
  obtain ⟨d, h1, e⟩ := ob_get e
  obtain ⟨ds, h2, e⟩ := ob_get e
  obtain ⟨h0, e⟩ := oif_get e
  obtain ⟨out, h3, e⟩ := ob_get e
  cases e
  rw [Bool.and_eq_true] at h0
  exact hi sd d h1 _ (zItems d ds h2 _ ⟨⟨h0.1, Nat.le_of_ble_eq_true h0.2⟩, ydcX hg ht hk hv ds [] out h3 _ q⟩)
end
end DL

set_option Elab.async false
set_option linter.all false
set_option maxRecDepth 100000
set_option maxHeartbeats 4000000
/-! sorted: of a list of ints, of a dict whose keys are ints -/
namespace DL
open PySem PySem.Spec PyProof.Rows L2
variable [Tb]
def putI (x : Int) : List Int → List Int
  | [] => [x]
  | y :: ys => if x ≤ y then x :: y :: ys else y :: putI x ys
def srtI : List Int → List Int
  | [] => []
  | x :: xs => putI x (srtI xs)
theorem putI_perm (x : Int) : ∀ ys : List Int, (putI x ys).Perm (x :: ys)
  | [] => .refl _
  | y :: ys => by
    unfold putI
    split
    · exact .refl _
    · exact ((putI_perm x ys).cons y).trans (.swap x y ys)
theorem putI_asc {x : Int} : ∀ {ys : List Int}, ys.Pairwise (· ≤ ·) → (putI x ys).Pairwise (· ≤ ·)
  | [], _ => List.pairwise_singleton _ _
  | y :: ys, h => by
    have h1 := List.pairwise_cons.mp h
    unfold putI
    split
    · rename_i hx
      refine List.pairwise_cons.mpr ⟨fun z m => ?_, h⟩
      rcases List.mem_cons.mp m with rfl | m
      · exact hx
      · exact Int.le_trans hx (h1.1 z m)
    · rename_i hx
      refine List.pairwise_cons.mpr ⟨fun z m => ?_, putI_asc h1.2⟩
      rcases List.mem_cons.mp ((putI_perm x ys).mem_iff.mp m) with rfl | m
      · omega
      · exact h1.1 z m
theorem srtI_perm : ∀ xs : List Int, (srtI xs).Perm xs
  | [] => .nil
  | x :: xs => (putI_perm x (srtI xs)).trans ((srtI_perm xs).cons x)
theorem srtI_asc : ∀ xs : List Int, (srtI xs).Pairwise (· ≤ ·)
  | [] => .nil
  | x :: xs => putI_asc (srtI_asc xs)
theorem srtI_one {xs ys : List Int} (h : ys.Perm xs) (a : ys.Pairwise (· ≤ ·)) : ys = srtI xs :=
  List.Perm.eq_of_pairwise (le := (· ≤ ·)) (fun a b _ _ h1 h2 => Int.le_antisymm h1 h2) a (srtI_asc xs) (h.trans (srtI_perm xs).symm)
theorem ints_rel {K : PySem.W.Frag} {H : Hp} : ∀ {is : List Int} {vs : List V}, DxAll K H vs (is.map PyData.int) → vs = is.map V.int
  | [], _, .nil => rfl
  | _ :: _, _, .cons h t => by cases h; rw [List.map_cons, ints_rel t]
theorem rel_ints {K : PySem.W.Frag} {H : Hp} : ∀ (is : List Int), DxAll K H (is.map V.int) (is.map PyData.int)
  | [] => .nil
  | _ :: is => .cons (.int _) (rel_ints is)
theorem keys_ints : ∀ {kvs : List (Key × V)} {is : List Int}, kvs.map (fun p => keyD p.1) = is.map PyData.int → kvs.map (·.1) = is.map Sum.inl
  | [], [], _ => rfl
  | [], _ :: _, h => by cases h
  | _ :: _, [], h => by cases h
  | ⟨.inl i, v⟩ :: kvs, j :: is, h => by
    rw [List.map_cons, List.map_cons] at h
    injection h with h1 h2
    rw [List.map_cons, List.map_cons, keys_ints h2]
    cases h1; rfl
  | ⟨.inr i, v⟩ :: kvs, j :: is, h => by
    rw [List.map_cons, List.map_cons] at h
    injection h with h1 h2
    cases h1
def dSorted (d : PyData) (Q : RV → Prop) : Prop := match d with
  | .list ds => onSome (intsOf ds) fun is => is.length < 64 ∧ Q (.fr ((srtI is).map PyData.int))
  | .tuple ds => onSome (intsOf ds) fun is => False
  | .dict es => onSome (intsOf (es.map (·.1))) fun is => is.length < 64 ∧ Q (.fr ((srtI is).map PyData.int))
  | _ => False
section
variable {X : Cx}
theorem cd_sorted (hc : X.calm = true) : CallD X (.builtin "sorted") .sh (rd1 dSorted) where
  ex := ⟨_, cr_sorted.or (call_sortedDI hc), rd1_br fun S O H x d Q hs hO hd q => by
    unfold dSorted at q
    split at q
    · obtain ⟨is, em, h64, q⟩ := onSome_get q
      obtain ⟨a, us, rfl, h1, h2⟩ := hd
      rw [intsOf_get em] at h2
      rw [ints_rel h2] at h1
      refine .inl ⟨a, is, rfl, .inl (.inl (hid_some h1).2), h64, fun ns' p hp ha hn => ?_⟩
      rw [srtI_one hp ha]
      exact q _ _ (same_new hn) (rv_lst hn (rel_ints _))
    · obtain ⟨is, em, q⟩ := onSome_get q
      exact q.elim
    · obtain ⟨is, em, h64, q⟩ := onSome_get q
      obtain ⟨a, o, rfl, h1, h2⟩ := hd
      obtain ⟨kvs, rfl, kr⟩ := h2.kr
      have ek := kr.keys
      rw [intsOf_get em] at ek
      refine .inr ⟨a, kvs, is, rfl, .inl (hid_some h1).2, keys_ints ek.symm, h64, fun ns' p hp ha hn => ?_⟩
      rw [srtI_one hp ha]
      exact q _ _ (same_new hn) (rv_lst hn (rel_ints _))
    · exact q.elim⟩
  mo := rd1_mo fun d Q Q' k q => by
    unfold dSorted at q ⊢
    split at q
    · exact onSome_mo (fun es q => ⟨q.1, k _ q.2⟩) q
    · exact onSome_mo (fun es q => q.elim) q
    · exact onSome_mo (fun es q => ⟨q.1, k _ q.2⟩) q
    · exact q.elim
def gSorted : PyData → Option RV
  | .list ds => ob (intsOf ds) fun is => oif (Nat.blt is.length 64) (some (.fr ((srtI is).map PyData.int)))
  | .dict es => ob (intsOf (es.map (·.1))) fun is => oif (Nat.blt is.length 64) (some (.fr ((srtI is).map PyData.int)))
  | _ => none
theorem zSorted : Wy dSorted gSorted := fun d b e Q q => by
  unfold gSorted at e
  split at e
  · obtain ⟨is, h1, e⟩ := ob_get e
    obtain ⟨h2, e⟩ := oif_get e
    cases e
    show onSome (intsOf _) _
    rw [h1]
    exact ⟨Nat.le_of_ble_eq_true h2, q⟩
  · obtain ⟨is, h1, e⟩ := ob_get e
    obtain ⟨h2, e⟩ := oif_get e
    cases e
    show onSome (intsOf _) _
    rw [h1]
    exact ⟨Nat.le_of_ble_eq_true h2, q⟩
  · cases e
end
end DL

set_option Elab.async false
set_option linter.all false
set_option maxRecDepth 100000
set_option maxHeartbeats 4000000
/-! comprehensions over texts, zip, enumerate -/
namespace DL
open PySem PySem.Spec PyProof.Rows L2
variable [Tb]
section
variable {X : Cx} {a e b tg iter elt : Expr} {ifs : List Expr} {elts : List Expr} {kk : Nat} {tpos : Pos} {pos p : Pos} {g : WG} {t : WB} {we : WR} {is vs : List Nat} {scope : Scope} {own : List (Str × Nat)}
theorem lc_new {c : Cd} {sd : SD} {os : List (Option Addr)} {σ : L2.St} {H1 : Hp} {Q : VK} {J : It} {ds : List PyData} {D : Addr}
    (hg : ∀ d sd (Q Q' : SD → Prop), (∀ s, Q s → Q' s) → g d sd Q → g d sd Q') (ht : ∀ sd (Q Q' : Bool → Prop), (∀ r, Q r → Q' r) → t sd Q → t sd Q') (he : ∀ sd (Q Q' : RV → Prop), (∀ r, Q r → Q' r) → we sd Q → we sd Q')
    (hk : c.K = X.K) (r : R c sd os σ H1) (hD : H1 D = none) (hv : ∀ i ∈ vs, noOw (getS sd i) = true) (hsub : ∀ i ∈ is, i ∈ vs)
    (hJ : ∀ H2, Ext c.S H1 H2 → ItNew c.K J ds (OO { c with Oc := D :: c.Oc } os) H2) (hz : ds.length ≤ sizeLine)
    (q : lcW g t we (wipeD sd vs) ds fun out => ∀ v H', Ext c.S H1 H' → RvR X.K (OO c os) H1 H' v (.fr out) → Q v H') :
    ∃ W : Nat → Nat → Hp → Prop, (∃ m, W 0 m (upd H1 D (.lst []))) ∧ ∀ i m H, W i m H →
      (J.stop i H ∧ Q (.ref D) H) ∨ (J.go i H ∧ ∃ Nx : Hp → Prop, (∀ H', Nx H' → ∃ m', m' < m ∧ W (i + 1) m' H') ∧ ∀ x H', J.yld i H x H' →
        tGt X.K is g x (wipe σ vs) H' fun σ2 H2 => wipe σ2 vs = wipe σ vs ∧ tTe X.K t σ2 H2 fun b H3 =>
          if b = true then tR X.K we σ2 H3 fun y H4 => ∃ acc, H4 D = some (.lst acc) ∧ acc.length < sizeLine ∧ Nx (upd H4 D (.lst (acc ++ [y]))) else Nx H3) := by
  have nS : D ∉ c.S := fun z => r.srcNow.there D z hD
  have h0 : c.H0 D = none := by
    cases q : c.H0 D with
    | none => rfl
    | some o => rw [r.ext.st D o nS q] at hD; cases hD
  have hos : ∀ i ∈ vs, ∀ b, os[i]? ≠ some (some b) := fun i m b e => by
    obtain ⟨i', s0, o0, g1, g1', g2, g3, _⟩ := r.ownAt (List.mem_of_getElem? e)
    have ei := r.uniq _ _ _ g3 e
    subst ei
    have := hv i' m
    rw [getS_of g1, noOw_own g1'] at this
    cases this
  have rD := (r.hide (o := .lst []) (H' := upd H1 D (.lst [])) (Ext.of (same_new hD)) hD upd_same own_lst).wipe vs hv
  refine ⟨fun i m H => ∃ acc out, H D = some (.lst acc) ∧ DxAll c.K (hid (OO { c with Oc := D :: c.Oc } os) H) acc out ∧ R { c with Oc := D :: c.Oc } (wipeD sd vs) os (wipe σ vs) H ∧ Ext c.S H1 H ∧
      lcW g t we (wipeD sd vs) (ds.drop i) (fun rest => ∀ v H', Ext c.S H1 H' → RvR X.K (OO c os) H1 H' v (.fr (out ++ rest)) → Q v H') ∧ m = ds.length - i ∧ i ≤ ds.length ∧ acc.length ≤ i,
    ⟨_, [], [], upd_same, .nil, rD, Ext.of (same_new hD), q, rfl, Nat.zero_le _, Nat.le_refl _⟩, ?_⟩
  rintro i m H ⟨acc, out, hDa, dacc, rw', x1, q, rfl, hi, hl⟩
  have ok := hJ H x1
  by_cases hlt : i < ds.length
  · have eg := List.getElem?_eq_getElem hlt
    obtain ⟨go, yl⟩ := ok.1 i _ eg
    rw [List.drop_eq_getElem_cons hlt] at q
    refine .inr ⟨go, fun H' => ∃ acc out, H' D = some (.lst acc) ∧ DxAll c.K (hid (OO { c with Oc := D :: c.Oc } os) H') acc out ∧ R { c with Oc := D :: c.Oc } (wipeD sd vs) os (wipe σ vs) H' ∧ Ext c.S H1 H' ∧
      lcW g t we (wipeD sd vs) (ds.drop (i + 1)) (fun rest => ∀ v H', Ext c.S H1 H' → RvR X.K (OO c os) H1 H' v (.fr (out ++ rest)) → Q v H') ∧ acc.length ≤ i + 1,
      fun H' ⟨acc, out, e1, e2, e3, e4, e5, e6⟩ => ⟨ds.length - (i + 1), by omega, acc, out, e1, e2, e3, e4, e5, rfl, hlt, e6⟩, fun x H' y => ?_⟩
    obtain ⟨sm, dx⟩ := yl x H' y
    have dx := dx fun a m => rw'.there m
    have dacc := DxAll.grow (S := c.S) rw'.sO (Ext.of sm) dacc
    have rw' := rw'.grow (Ext.of sm)
    have hDa := sm _ _ hDa
    have x1 := x1.trans (Ext.of sm)
    refine ⟨{ c with Oc := D :: c.Oc }, wipeD sd vs, os, ds[i], hk, rw', by rw [← hk]; exact dx, hg _ _ _ _ (fun s k σ2 os2 r2 b2 => ⟨?_, ?_⟩) q⟩
    · rw [wipe_but b2 hsub, wipe_idem]
    · refine ⟨{ c with Oc := D :: c.Oc }, s, os2, hk, r2, ht _ _ _ (fun b kb H3 x3 => ?_) k⟩
      cases b with
      | false =>
        show ∃ acc out, _
        exact ⟨acc, out, x3.st D _ nS hDa, DxAll.grow (S := c.S) rw'.sO x3 dacc, rw'.grow x3, x1.trans x3, kb, by omega⟩
      | true =>
        refine ⟨{ c with Oc := D :: c.Oc }, s, os2, hk, r2.grow x3, he _ _ _ (fun z kz y H4 x4 rv => ?_) kb⟩
        have x34 := x3.trans x4
        have a4 := x34.st D _ nS hDa
        refine ⟨acc, a4, by omega, acc ++ [y], out ++ [z.dat], upd_same, ?_, (rw'.grow x34).updO List.mem_cons_self nS h0 own_lst, ext_upd (x1.trans x34) hD nS, ?_, by rw [List.length_append]; show acc.length + 1 ≤ i + 1; omega⟩
        · rw [hid_upd (mem_OO.mpr (.inl List.mem_cons_self))]
          refine (DxAll.grow (S := c.S) rw'.sO x34 dacc).app (.cons ?_ .nil)
          have dz := RvR.cl rv fun b m => (r2.grow x3).there m
          rw [hk]
          refine Dx.same (hid_same (fun _ _ _ h => h) fun b m => .inl ?_) _ _ dz
          rcases mem_OO.mp m with z | z
          · exact mem_OO.mpr (.inl z)
          · obtain ⟨j, hj, ej⟩ := List.getElem_of_mem z
            have e1 : os[j]? = some (some b) := by rw [List.getElem?_eq_getElem hj, ej]
            have nj : j ∉ is := fun mi => hos j (hsub j mi) b e1
            exact mem_OO.mpr (.inr (List.mem_of_getElem? ((b2.2 j nj).2.trans e1)))
        · refine lcW_mo hg ht he _ _ _ _ (fun rest k => ?_) kz
          rw [List.append_assoc]
          exact k
  · have e : i = ds.length := by omega
    subst e
    rw [List.drop_length] at q
    refine .inl ⟨ok.2 _ (Nat.le_refl _), ?_⟩
    have q : ∀ v H', Ext c.S H1 H' → RvR X.K (OO c os) H1 H' v (.fr (out ++ [])) → Q v H' := q
    rw [List.append_nil] at q
    exact q _ H x1 ⟨D, acc, rfl, hD, hDa, by rw [← hk]; exact dacc⟩

theorem it_s {K : PySem.W.Frag} {O : List Addr} {H : Hp} (z : Str) : ItOk K (Its z) (signD z) O H := by
  refine ⟨fun i d e => ?_, fun i l => ?_⟩
  · unfold signD at e
    rw [List.getElem?_map] at e
    cases q : z.cps.toList[i]? with
    | none => rw [q] at e; cases e
    | some c =>
      rw [q] at e
      cases e
      rw [Array.getElem?_toList] at q
      refine ⟨(Array.getElem?_eq_some_iff.mp q).1, fun x H3 y => ⟨y.1, ?_⟩⟩
      obtain ⟨c', e1, e2⟩ := y.2
      rw [q] at e1
      cases e1
      rw [e2]
      exact .str _
  · unfold signD at l
    rw [List.length_map, Array.length_toList] at l
    exact l
def dSigns (d : PyData) (k : List PyData → Prop) : Prop := match d with
  | .str z => k (signD z)
  | _ => False
theorem dSigns_mo {d : PyData} {k k' : List PyData → Prop} (h : ∀ n, k n → k' n) (q : dSigns d k) : dSigns d k' := by
  cases d with
  | str n => exact h _ q
  | _ => exact q.elim
/-- [elt for tg in a text if ..] -/
theorem evc_lcS {wi : WD} (h : Ev .sh X iter wi) (ok : BlkOk X.N X.env.scope scope own)
    (hg : ∀ (s : Shared) (H : Hp) (C : Addr) (cl : List (Str × Addr)) (fp : List Addr), EvG (X.blk s H scope (compEnvC scope cl C X.env) fp) tg is g)
    (ht : ∀ (s : Shared) (H : Hp) (C : Addr) (cl : List (Str × Addr)) (fp : List Addr), EvI (X.blk s H scope (compEnvC scope cl C X.env) fp) ifs t)
    (he : ∀ (s : Shared) (H : Hp) (C : Addr) (cl : List (Str × Addr)) (fp : List Addr), EvR (X.blk s H scope (compEnvC scope cl C X.env) fp) elt we)
    (hsub : ∀ i ∈ is, i ∈ own.map (·.2) := by decide) (hs : ∀ x, foldedSetIterable iter X.env x = pure x := by intro _; rfl) :
    EvC X elt tg iter ifs scope (fun sd Q => wi sd fun d => dSigns d fun ds =>
      (okVs sd (own.map (·.2)) = true ∧ ds.length ≤ sizeLine) ∧ lcW g t we (wipeD sd (own.map (·.2))) ds fun out => Q (.fr out)) where
  ex := ⟨own, _, _, _, _, pi_str h.pe, ok, fun s H C cl fp => (hg s H C cl fp).pg, fun s H C cl fp => (ht s H C cl fp).pt, fun s H C cl fp => (he s H C cl fp).pe, hs,
    fun σ H Q ⟨c, sd, os, hk, r, q⟩ => by
    have hg' := (hg X.s_0 X.H_0 0 [] []).mo
    have ht' := (ht X.s_0 X.H_0 0 [] []).mo
    have he' := (he X.s_0 X.H_0 0 [] []).mo
    refine ⟨c, sd, os, hk, r, h.mo _ _ _ (fun d kz v H1 x1 dm => ?_) q⟩
    have rr := r.grow x1
    cases d with
    | str z =>
      obtain ⟨⟨k1, k2⟩, k3⟩ := kz
      exact ⟨z, shStr dm, fun D hD => lc_run hg' ht' he' hk rr hD (okVs_all k1) hsub (fun H2 x2 => it_s z) k2
        (lcW_mo hg' ht' he' _ _ _ _ (fun out kq v' H' x' rv => kq v' H' (x1.trans x') (RvR.from r.sO (fun b m => rr.there m) x1 rv)) k3)⟩
    | _ => exact kz.elim⟩
  mo := fun sd Q Q' k q => h.mo _ _ _ (fun d z => dSigns_mo (fun ds z => ⟨z.1, lcW_mo (hg X.s_0 X.H_0 0 [] []).mo (ht X.s_0 X.H_0 0 [] []).mo (he X.s_0 X.H_0 0 [] []).mo _ _ _ _ (fun r y => k _ y) z.2⟩) z) q
/-! ### enumerate -/
def enumD (i : Nat) : List PyData → List PyData
  | [] => []
  | d :: ds => .tuple [.int (i : Nat), d] :: enumD (i + 1) ds
theorem enumD_len : ∀ (i : Nat) (ds : List PyData), (enumD i ds).length = ds.length
  | _, [] => rfl
  | i, _ :: ds => by show (enumD (i + 1) ds).length + 1 = ds.length + 1; rw [enumD_len]
theorem enumD_at : ∀ (j : Nat) (ds : List PyData) (i : Nat), (enumD j ds)[i]? = (ds[i]?).map fun d => .tuple [.int ((j + i : Nat) : Int), d]
  | _, [], i => by simp [enumD]
  | j, d :: ds, 0 => rfl
  | j, d :: ds, i + 1 => by
    show (enumD (j + 1) ds)[i]? = ((ds[i]?).map _)
    rw [enumD_at (j + 1) ds i, show j + 1 + i = j + (i + 1) by omega]
def dEnum (d : PyData) (k : List PyData → Prop) : Prop := match d with
  | .list ds => k (enumD 0 ds)
  | _ => False
theorem dEnum_mo {d : PyData} {k k' : List PyData → Prop} (h : ∀ n, k n → k' n) (q : dEnum d k) : dEnum d k' := by
  cases d with
  | list n => exact h _ q
  | _ => exact q.elim
theorem it_e {K : PySem.W.Frag} {O : List Addr} {H : Hp} {x : Addr} {us : List V} {ds : List PyData} (h1 : SqL K H x us) (d1 : DxAll K (hid O H) us ds) : ItNew K (Ite K x) (enumD 0 ds) O H := by
  refine ⟨fun i d e => ?_, fun i l => ⟨us, h1, ?_⟩⟩
  · rw [enumD_at] at e
    cases q : ds[i]? with
    | none => rw [q] at e; cases e
    | some d' =>
      rw [q] at e
      cases e
      obtain ⟨u, gu, du⟩ := d1.get q
      refine ⟨⟨us, u, h1, gu⟩, fun z H3 ⟨T, x', e1, hT, e2, f1⟩ => ?_⟩
      subst e1 e2
      have a1 := f1 us h1
      rw [gu] at a1; cases a1
      refine ⟨same_new hT, fun hO => ?_⟩
      rw [Nat.zero_add]
      exact rv_tup hT hO (.cons (.int _) (.cons du .nil))
  · rw [enumD_len] at l
    rw [d1.len]
    exact l
/-- [elt for (k, x) in enumerate(xs) if ..] -/
theorem evc_lcE {wi : WD} (h : Ev .sh X a wi) (ok : BlkOk X.N X.env.scope scope own) (hm : X.mg "enumerate" = none)
    (hg : ∀ (s : Shared) (H : Hp) (C : Addr) (cl : List (Str × Addr)) (fp : List Addr), EvG (X.blk s H scope (compEnvC scope cl C X.env) fp) (.Tuple elts kk tpos) is g)
    (ht : ∀ (s : Shared) (H : Hp) (C : Addr) (cl : List (Str × Addr)) (fp : List Addr), EvI (X.blk s H scope (compEnvC scope cl C X.env) fp) ifs t)
    (he : ∀ (s : Shared) (H : Hp) (C : Addr) (cl : List (Str × Addr)) (fp : List Addr), EvR (X.blk s H scope (compEnvC scope cl C X.env) fp) elt we)
    (hgl : Gl X "enumerate" := by rfl) (hsub : ∀ i ∈ is, i ∈ own.map (·.2) := by decide) {pos2 : Pos}
    (h1 : starEach [a] X.env = (false, eval a X.env) :: starEach [] X.env := by rfl) (h2 : starEach [a] X.env = [(false, eval a X.env)] := by rfl)
    (hs : ∀ x, foldedSetIterable (.Call (.Name "enumerate" p) [a] [] pos2) X.env x = pure x := by intro _; rfl) :
    EvC X elt (.Tuple elts kk tpos) (.Call (.Name "enumerate" p) [a] [] pos2) ifs scope (fun sd Q => wi sd fun d => dEnum d fun ds =>
      (okVs sd (own.map (·.2)) = true ∧ ds.length ≤ sizeLine) ∧ lcW g t we (wipeD sd (own.map (·.2))) ds fun out => Q (.fr out)) where
  ex := ⟨own, _, _, _, _, pi_enum hgl hm (pa_cons h.pe pa_nil h1) h2, ok, fun s H C cl fp => (hg s H C cl fp).pg, fun s H C cl fp => (ht s H C cl fp).pt, fun s H C cl fp => (he s H C cl fp).pe, hs,
    fun σ H Q ⟨c, sd, os, hk, r, q⟩ => by
    have hg' := (hg X.s_0 X.H_0 0 [] []).mo
    have ht' := (ht X.s_0 X.H_0 0 [] []).mo
    have he' := (he X.s_0 X.H_0 0 [] []).mo
    refine ⟨c, sd, os, hk, r, h.mo _ _ _ (fun d kz v H1 x1 dm => ?_) q⟩
    have rr := r.grow x1
    cases d with
    | list ds =>
      obtain ⟨⟨k1, k2⟩, k3⟩ := kz
      obtain ⟨l, us, rfl, d1, d2⟩ := dm
      refine ⟨l, us, rfl, .inl (.inl (hid_some d1).2), fun D hD => lc_new hg' ht' he' hk rr hD (okVs_all k1) hsub (fun H2 x2 => ?_) k2
        (lcW_mo hg' ht' he' _ _ _ _ (fun out kq v' H' x' rv => kq v' H' (x1.trans x') (RvR.from r.sO (fun b m => rr.there m) x1 rv)) k3)⟩
      rw [hk]
      refine it_e (.inl (.inl (x2.st l _ (hid_some d1).1 (hid_some d1).2))) (DxAll.same (hid_same (fun b o n e => x2.st b o (fun z => n (r.sO b z)) e) fun b m => ?_) _ _ d2)
      rcases mem_OO.mp m with z | z
      · rcases List.mem_cons.mp z with rfl | z
        · exact .inr hD
        · exact .inl (mem_OO.mpr (.inl z))
      · exact .inl (mem_OO.mpr (.inr z))
    | _ => exact kz.elim⟩
  mo := fun sd Q Q' k q => h.mo _ _ _ (fun d z => dEnum_mo (fun ds z => ⟨z.1, lcW_mo (hg X.s_0 X.H_0 0 [] []).mo (ht X.s_0 X.H_0 0 [] []).mo (he X.s_0 X.H_0 0 [] []).mo _ _ _ _ (fun r y => k _ y) z.2⟩) z) q
/-! ### zip -/
theorem evc_lcZ {wl : WL} (h : EvL .cl X [a, b] wl) (ok : BlkOk X.N X.env.scope scope own) (hm : X.mg "zip" = none)
    (hg : ∀ (s : Shared) (H : Hp) (C : Addr) (cl : List (Str × Addr)) (fp : List Addr), EvG (X.blk s H scope (compEnvC scope cl C X.env) fp) (.Tuple elts kk tpos) is g)
    (ht : ∀ (s : Shared) (H : Hp) (C : Addr) (cl : List (Str × Addr)) (fp : List Addr), EvI (X.blk s H scope (compEnvC scope cl C X.env) fp) ifs t)
    (he : ∀ (s : Shared) (H : Hp) (C : Addr) (cl : List (Str × Addr)) (fp : List Addr), EvR (X.blk s H scope (compEnvC scope cl C X.env) fp) elt we)
    (hgl : Gl X "zip" := by rfl) (hsub : ∀ i ∈ is, i ∈ own.map (·.2) := by decide) {pos2 : Pos}
    (h1 : starEach [a, b] X.env = (false, eval a X.env) :: starEach [b] X.env := by rfl) (h2 : (backTo pos2 (starEach [b] X.env)).any (·.1) = false := by rfl)
    (hs : ∀ x, foldedSetIterable (.Call (.Name "zip" p) [a, b] [] pos2) X.env x = pure x := by intro _; rfl) :
    EvC X elt (.Tuple elts kk tpos) (.Call (.Name "zip" p) [a, b] [] pos2) ifs scope (fun sd Q => wl sd fun vs => dZip vs fun ds =>
      (okVs sd (own.map (·.2)) = true ∧ ds.length ≤ sizeLine) ∧ lcW g t we (wipeD sd (own.map (·.2))) ds fun out => Q (.fr out)) where
  ex := ⟨own, _, _, _, _, RZ.pi_zipA hgl hm h.pa h1 h2, ok, fun s H C cl fp => (hg s H C cl fp).pg, fun s H C cl fp => (ht s H C cl fp).pt, fun s H C cl fp => (he s H C cl fp).pe, hs,
    fun σ H Q ⟨c, sd, os, hk, r, q⟩ => by
    have hg' := (hg X.s_0 X.H_0 0 [] []).mo
    have ht' := (ht X.s_0 X.H_0 0 [] []).mo
    have he' := (he X.s_0 X.H_0 0 [] []).mo
    refine ⟨c, sd, os, hk, r, h.mo _ _ _ (fun ds kz vs H1 x1 dm => ?_) q⟩
    have rr := r.grow x1
    have sub : ∀ {D : Addr} {H2 : Hp}, H1 D = none → Ext c.S H1 H2 → Same (hid (OO c os) H1) (hid (OO { c with Oc := D :: c.Oc } os) H2) := fun hD x2 => hid_same (fun b o n e => x2.st b o (fun z => n (r.sO b z)) e) fun b m => by
      rcases mem_OO.mp m with z | z
      · rcases List.mem_cons.mp z with rfl | z
        · exact .inr hD
        · exact .inl (mem_OO.mpr (.inl z))
      · exact .inl (mem_OO.mpr (.inr z))
    unfold dZip at kz
    split at kz
    · rename_i xs ys
      obtain ⟨⟨k1, k2⟩, k3⟩ := kz
      obtain ⟨x, y, rfl, dx, dy⟩ := DMs.two dm
      cases dx with
      | @lst ax us _ g1 g2 =>
        cases dy with
        | @lst ay ws _ g3 g4 =>
          refine ⟨ax, ay, us, ws, rfl, .inl ⟨.inl (.inl (hid_some g1).2), .inl (.inl (hid_some g3).2), fun D hD => lc_new hg' ht' he' hk rr hD (okVs_all k1) hsub (fun H2 x2 => ?_) k2
            (lcW_mo hg' ht' he' _ _ _ _ (fun out kq v' H' x' rv => kq v' H' (x1.trans x') (RvR.from r.sO (fun b m => rr.there m) x1 rv)) k3)⟩⟩
          rw [hk]
          have s := sub hD x2
          exact it_zip (.inl (.inl (hid_some (s _ _ g1)).2)) (.inl (.inl (hid_some (s _ _ g3)).2)) (DxAll.same s _ _ g2) (DxAll.same s _ _ g4)
    · rename_i xs ys
      obtain ⟨⟨k1, k2⟩, k3⟩ := kz
      obtain ⟨x, y, rfl, dx, dy⟩ := DMs.two dm
      cases dx with
      | @tup ax us _ g1 g2 =>
        cases dy with
        | @tup ay ws _ g3 g4 =>
          refine ⟨ax, ay, us, ws, rfl, .inr ⟨SqT.same hid_sub g1, SqT.same hid_sub g3, fun D hD => lc_new hg' ht' he' hk rr hD (okVs_all k1) hsub (fun H2 x2 => ?_) k2
            (lcW_mo hg' ht' he' _ _ _ _ (fun out kq v' H' x' rv => kq v' H' (x1.trans x') (RvR.from r.sO (fun b m => rr.there m) x1 rv)) k3)⟩⟩
          rw [hk]
          have s := sub hD x2
          exact it_zipT (SqT.same hid_sub (SqT.same s g1)) (SqT.same hid_sub (SqT.same s g3)) (DxAll.same s _ _ g2) (DxAll.same s _ _ g4)
    · exact kz.elim⟩
  mo := fun sd Q Q' k q => h.mo _ _ _ (fun d z => dZip_mo (fun ds z => ⟨z.1, lcW_mo (hg X.s_0 X.H_0 0 [] []).mo (ht X.s_0 X.H_0 0 [] []).mo (he X.s_0 X.H_0 0 [] []).mo _ _ _ _ (fun r y => k _ y) z.2⟩) z) q
/-! ### what can be computed of it -/
def signsD : PyData → Option (List PyData)
  | .str z => some (signD z)
  | _ => none
def xLcS (vs : List Nat) (fi : XE PyData) (g : XT) (t : XE Bool) (f : XE RV) : XE RV := fun sd => ob (fi sd) fun d => ob (signsD d) fun ds => oif (okVs sd vs && lenOk ds) (ob (lcX g t f (wipeD sd vs) ds) fun out => some (.fr out))
theorem yLcS {vs : List Nat} {wi : WD} {fi : XE PyData} {g : WG} {t : WB} {w : WR} {fg : XT} {ft : XE Bool} {f : XE RV} (hi : Wy wi fi) (hg : WyG g fg) (ht : Wy t ft) (h : Wy w f) :
    Wy (fun sd Q => wi sd fun d => dSigns d fun ds => (okVs sd vs = true ∧ ds.length ≤ sizeLine) ∧ lcW g t w (wipeD sd vs) ds fun out => Q (RV.fr out)) (xLcS vs fi fg ft f) := fun sd b e Q q => by
  obtain ⟨d, h1, e⟩ := ob_get e
  obtain ⟨ds, h2, e⟩ := ob_get e
  obtain ⟨h0, e⟩ := oif_get e
  obtain ⟨out, h3, e⟩ := ob_get e
  cases e
  rw [Bool.and_eq_true] at h0
  refine hi sd d h1 _ ?_
  cases d with
  | str z => cases h2; exact ⟨⟨h0.1, Nat.le_of_ble_eq_true h0.2⟩, ylcX hg ht h _ out h3 _ q⟩
  | _ => cases h2
def enumsD : PyData → Option (List PyData)
  | .list ds => some (enumD 0 ds)
  | _ => none
def xLcE (vs : List Nat) (fi : XE PyData) (g : XT) (t : XE Bool) (f : XE RV) : XE RV := fun sd => ob (fi sd) fun d => ob (enumsD d) fun ds => oif (okVs sd vs && lenOk ds) (ob (lcX g t f (wipeD sd vs) ds) fun out => some (.fr out))
theorem yLcE {vs : List Nat} {wi : WD} {fi : XE PyData} {g : WG} {t : WB} {w : WR} {fg : XT} {ft : XE Bool} {f : XE RV} (hi : Wy wi fi) (hg : WyG g fg) (ht : Wy t ft) (h : Wy w f) :
    Wy (fun sd Q => wi sd fun d => dEnum d fun ds => (okVs sd vs = true ∧ ds.length ≤ sizeLine) ∧ lcW g t w (wipeD sd vs) ds fun out => Q (RV.fr out)) (xLcE vs fi fg ft f) := fun sd b e Q q => by
  obtain ⟨d, h1, e⟩ := ob_get e
  obtain ⟨ds, h2, e⟩ := ob_get e
  obtain ⟨h0, e⟩ := oif_get e
  obtain ⟨out, h3, e⟩ := ob_get e
  cases e
  rw [Bool.and_eq_true] at h0
  refine hi sd d h1 _ ?_
  cases d with
  | list z => cases h2; exact ⟨⟨h0.1, Nat.le_of_ble_eq_true h0.2⟩, ylcX hg ht h _ out h3 _ q⟩
  | _ => cases h2
def xLcZ (vs : List Nat) (fi : XE (List PyData)) (g : XT) (t : XE Bool) (f : XE RV) : XE RV := fun sd => ob (fi sd) fun d => ob (zipD d) fun ds => oif (okVs sd vs && lenOk ds) (ob (lcX g t f (wipeD sd vs) ds) fun out => some (.fr out))
theorem yLcZ {vs : List Nat} {wi : WL} {fi : XE (List PyData)} {g : WG} {t : WB} {w : WR} {fg : XT} {ft : XE Bool} {f : XE RV} (hi : Wy wi fi) (hg : WyG g fg) (ht : Wy t ft) (h : Wy w f) :
    Wy (fun sd Q => wi sd fun d => dZip d fun ds => (okVs sd vs = true ∧ ds.length ≤ sizeLine) ∧ lcW g t w (wipeD sd vs) ds fun out => Q (RV.fr out)) (xLcZ vs fi fg ft f) := fun sd b e Q q => by
  obtain ⟨d, h1, e⟩ := ob_get e
  obtain ⟨ds, h2, e⟩ := ob_get e
  obtain ⟨h0, e⟩ := oif_get e
  obtain ⟨out, h3, e⟩ := ob_get e
  cases e
  rw [Bool.and_eq_true] at h0
  exact hi sd d h1 _ (zZip d ds h2 _ ⟨⟨h0.1, Nat.le_of_ble_eq_true h0.2⟩, ylcX hg ht h ds out h3 _ q⟩)
end
end DL

set_option Elab.async false
set_option linter.all false
set_option maxRecDepth 100000
set_option maxHeartbeats 4000000
/-! list(range(a, b)); a | b; d[k] at a module's dict -/
namespace DL
open PySem PySem.Spec PyProof.Rows L2
variable [Tb]
section
variable {X : Cx} {a b e : Expr} {pos p p2 q : Pos} {w u : WD}
theorem rg_all2 {K : PySem.W.Frag} {H : Hp} (lo hi : Int) : DxAll K H (rgV lo hi) (rangeD lo (hi - lo).toNat) := by
  unfold rgV rangeD
  have : ∀ l : List Nat, DxAll K H (l.map fun i => V.int (lo + (i : Nat))) (l.map fun (k : Nat) => PyData.int (lo + k)) := fun l => by
    induction l with
    | nil => exact .nil
    | cons i l ih => exact .cons (.int _) ih
  exact this _
def dRng2 (d e : PyData) (k : Int → Int → Prop) : Prop := match d, e with
  | .int m, .int n => (0 ≤ m ∧ m ≤ 1000000 ∧ 0 ≤ n ∧ n ≤ 1000000) ∧ k m n
  | _, _ => False
theorem dRng2_mo {d e : PyData} {k k' : Int → Int → Prop} (h : ∀ m n, k m n → k' m n) (q : dRng2 d e k) : dRng2 d e k' := by
  unfold dRng2 at q ⊢
  split at q
  · exact ⟨q.1, h _ _ q.2⟩
  · exact q.elim
def wListRg2 (wa wb : WD) : WR := fun sd Q => wa sd fun d => wb sd fun e => dRng2 d e fun m n => Q (.fr (rangeD m (n - m).toNat))
theorem evr_listRg2 (h : Ev .sh X a w) (h2 : Ev .sh X b u) (hc : X.calm = true) (hm : X.mg "list" = none) (hm2 : X.mg "range" = none) (hg : Gl X "list" := by rfl) (hg2 : Gl X "range" := by rfl)
    (na : starEach [a, b] X.env = (false, eval a X.env) :: starEach [b] X.env := by rfl) (n2 : starEach [b] X.env = (false, eval b X.env) :: starEach [] X.env := by rfl)
    (hp : (backTo q (starEach [b] X.env)).any (·.1) = false := by rfl)
    (nb : starEach [.Call (.Name "range" p2) [a, b] [] q] X.env = (false, eval (.Call (.Name "range" p2) [a, b] [] q) X.env) :: starEach [] X.env := by rfl) :
    EvR X (.Call (.Name "list" p) [.Call (.Name "range" p2) [a, b] [] q] [] pos) (wListRg2 w u) where
  pe := PE.weak (pe_listRg hc hg hm (prg_2 hg2 hm2 h.pe h2.pe na n2 hp) nb) fun σ H Q ⟨c, sd, os, hk, r, q⟩ => ⟨c, sd, os, hk, r, h.mo _ _ _ (fun d kd v H1 x1 dm => ⟨c, sd, os, hk, r.grow x1, h2.mo _ _ _ (fun e ke v2 H2 x2 dm2 => by
    unfold dRng2 at ke
    split at ke
    · have s1 := shInt dm
      have s2 := shInt dm2
      refine ⟨_, _, s1, s2, RgOk.of_le ke.1.1 (by omega) (by omega) ke.1.2.2.1, fun l hl => ke.2 _ _ ((x1.trans x2).trans (Ext.of (same_new hl))) (RvR.from r.sO (fun a m => ((r.grow x1).grow x2).there m) (x1.trans x2) (rv_lst hl (rg_all2 _ _)))⟩
    · exact ke.elim) kd⟩) q⟩
  mo := fun sd Q Q' k q => h.mo _ _ _ (fun d z => h2.mo _ _ _ (fun e z => dRng2_mo (fun m n y => k _ y) z) z) q
def xListRg2 (fa fb : XE PyData) : XE RV := fun sd => ob (fa sd) fun d => ob (fb sd) fun e => match d, e with
  | .int m, .int n => oif ((decide (0 ≤ m) && Nat.ble m.natAbs 1000000) && (decide (0 ≤ n) && Nat.ble n.natAbs 1000000)) (some (.fr (rangeD m (n - m).toNat)))
  | _, _ => none
theorem yListRg2 {fa fb : XE PyData} (ha : Wy w fa) (hb : Wy u fb) : Wy (wListRg2 w u) (xListRg2 fa fb) := fun sd z e Q q => by
  obtain ⟨d, h1, e⟩ := ob_get e
  obtain ⟨d2, h2, e⟩ := ob_get e
  refine ha sd d h1 _ (hb sd d2 h2 _ ?_)
  split at e
  · obtain ⟨h0, e⟩ := oif_get e
    cases e
    rw [Bool.and_eq_true, Bool.and_eq_true, Bool.and_eq_true] at h0
    have a1 := of_decide_eq_true h0.1.1
    have a2 := Nat.le_of_ble_eq_true h0.1.2
    have a3 := of_decide_eq_true h0.2.1
    have a4 := Nat.le_of_ble_eq_true h0.2.2
    exact ⟨⟨a1, by omega, a3, by omega⟩, q⟩
  · cases e
theorem od_or : OpD X (binaryOp .BitOr) .sh .sh (rdInt (fun _ _ => True) fun i j => .int (Builtin.bitOr i j)) := opd_int0 op_or fun _ _ _ _ => .int _
def gOr : X2 := gI tt2 fun i j => .int (Builtin.bitOr i j)
theorem zOr : Wy2 (rdInt (fun _ _ => True) fun i j => .int (Builtin.bitOr i j)) gOr := zI fun _ _ _ => trivial
end
end DL

set_option Elab.async false
set_option linter.all false
set_option maxRecDepth 100000
set_option maxHeartbeats 4000000
/-! enumerate(a text) -/
namespace L2
open PySem PySem.Spec PyProof.Rows
def Itse (z : Str) : It := ⟨fun i _ => i < z.cps.size, fun i H v H' => ∃ T c, v = .ref T ∧ H T = none ∧ H' = upd H T (.tup [.int (i : Nat), .str ⟨#[c]⟩]) ∧ z.cps[i]? = some c, fun i _ => z.cps.size ≤ i⟩
theorem draws_str {P : Program} {w : World} {A : Around} (hh : A.handled = none) (it : Addr) (z : Str) (t : Tok) :
    Draws P w A it [it] z.cps.size (fun i v => ∃ c u, z.cps[i]? = some c ∧ v = .str ⟨#[c]⟩ u) (fun i h => h.IsStrIter it (strIterType z) z t i) := by
  unfold strIterType
  split
  · exact Draws.strAscii hh it z t
  · exact Draws.strWide hh it z t
theorem turn_enumS {P : Program} {w : World} {K : PySem.W.Frag} {elts : List Expr} {kk : Nat} {tpos : Pos} (z : Str) (t : Tok) (e it : Addr) :
    Turn P w K (.Tuple elts kk tpos) (Itse z) [e, it] e (fun i h => (∃ old, IsEnum h e it ((i : Nat) : Int) old) ∧ h.IsStrIter it (strIterType z) z t i ∧ e ≠ it ∧ i ≤ z.cps.size) where
  mem := by simp
  obj := fun i h st b hb => by
    obtain ⟨⟨old, he⟩, ⟨o, ho, hc, hd⟩, _⟩ := st
    have e' : b = e ∨ b = it := by simpa using hb
    rcases e' with z | z
    · rw [z]; exact ⟨_, he, fun v q => nomatch q⟩
    · rw [z]; exact ⟨o, ho, fun v q => by rw [hd] at q; cases q⟩
  keep := fun i h h' st k => let ⟨⟨old, he⟩, ⟨o, ho, r⟩, hne, hi⟩ := st; ⟨⟨old, k e (by simp) _ he⟩, ⟨o, k it (by simp) o ho, r⟩, hne, hi⟩
  item := by
    intro X hP hw hK hc i pins s σ H E I hf st hg
    subst hP hw hK
    obtain ⟨⟨old, he⟩, hit, hne, hi⟩ := st
    have hg : i < z.cps.size := hg
    have hel : e < s.heap.objs.size := Heap.lt_size he
    have hil : it < s.heap.objs.size := by obtain ⟨_, q, _⟩ := hit; exact Heap.lt_size q
    have D : Draws X.prog X.w X.A.in1 it [it] z.cps.size (fun i v => ∃ c u, z.cps[i]? = some c ∧ v = .str ⟨#[c]⟩ u) (fun i h => h.IsStrIter it (strIterType z) z t i) := draws_str (A := X.A.in1) (I.ok.hd hc) it z t
    refine wpAny_pyNext_enum_itemD D he hit hg hne (by simpa using hne) fun x h' tk hP ho hit' hT hsz hk => ?_
    obtain ⟨c, u, hcx, rfl⟩ := hP
    refine ⟨_, rfl, wpAny_letOwnedTupleGo_enum (s := { s with heap := h', toks := tk + 1 }) ho fun h'' he' sb => ?_⟩
    have hT2 : h''.get? s.heap.objs.size = some { cls := .type "tuple", data := .seq #[.int i tk, .str ⟨#[c]⟩ u] } := (sb.2 _ (Nat.ne_of_gt hel)).trans hT
    have new : ObjOk X.prog X.w (upd H s.heap.objs.size (.tup [.int (i : Nat), .str ⟨#[c]⟩])) h'' s.heap.objs.size (.tup [.int (i : Nat), .str ⟨#[c]⟩]) :=
      ⟨by show 2 ≤ sizeLine; decide, [.int i tk, .str ⟨#[c]⟩ u], .cons ⟨_, rfl⟩ (.cons ⟨_, rfl⟩ .nil), ⟨_, hT2, rfl, _, rfl⟩⟩
    have I1 : Inv X pins σ (upd H s.heap.objs.size (.tup [.int (i : Nat), .str ⟨#[c]⟩])) { s with heap := h'', toks := tk + 1 } :=
      I.turnedNew (ch := [e, it]) (fun b ob hb q => (sb.2 b (fun z => hb (by simp [z]))).trans (hk b ob (fun z => hb (by simp [z])) (fun z => hb (by simp [z])) q)) hf (Nat.le_refl _) new
    refine ⟨.ref s.heap.objs.size, _, I1, rfl, ⟨_, c, rfl, I.hok.fresh (Nat.le_refl _), rfl, hcx⟩, ⟨⟨.str ⟨#[c]⟩ u, ?_⟩, ?_, hne, hg⟩, fun b hb => ?_⟩
    · have e1 : ((i + 1 : Nat) : Int) = (i : Int) + 1 := by omega
      rw [e1]; exact he'
    · obtain ⟨o, ho, r⟩ := hit'
      exact ⟨o, (sb.2 it (Ne.symm hne)).trans ho, r⟩
    · have hb' : b < s.heap.objs.size := by
        have e' : b = e ∨ b = it := by simpa using hb
        rcases e' with z | z
        · rw [z]; exact hel
        · rw [z]; exact hil
      rw [upd_ne (Nat.ne_of_lt hb')]
      exact (hf b hb).1
  done := by
    intro X hP hw hK hc i pins s σ H E I hf st hg
    subst hP hw hK
    obtain ⟨⟨old, he⟩, hit, hne, hi⟩ := st
    have hg : z.cps.size ≤ i := hg
    have ei : i = z.cps.size := Nat.le_antisymm hi hg
    subst ei
    obtain ⟨f0, f1, f2, f3, f4, f5⟩ := hf it (by simp)
    have D : Draws X.prog X.w X.A.in1 it [it] z.cps.size (fun i v => ∃ c u, z.cps[i]? = some c ∧ v = .str ⟨#[c]⟩ u) (fun i h => h.IsStrIter it (strIterType z) z t i) := draws_str (A := X.A.in1) (I.ok.hd hc) it z t
    exact wpAny_pyNext_enum_endD D he hit fun h' eb => ⟨rfl, I.turned (t' := s.toks) (fun b o hb q => eb b o hb q) f0 f1 f3 f4 f5⟩
  self := fun A i s Q E st h => let ⟨⟨_, he⟩, _⟩ := st; wpAny_pyIter_enum he h
def iEnumS (ta : TA) : TI := fun σ H R => ta σ H fun vs H1 => ∃ z, vs = [.str z] ∧ R (Itse z) H1
theorem pi_enumS {X : Cx} {e : Expr} {ta : TA} {p pos tpos : Pos} {elts : List Expr} {kk : Nat} (hg : Gl X "enumerate") (hm : X.mg "enumerate" = none) (ha : PA X [e] ta) (hs : starEach [e] X.env = [(false, eval e X.env)] := by rfl) :
    PI X (.Tuple elts kk tpos) (.Call (.Name "enumerate" p) [e] [] pos) (iEnumS ta) := by
  refine ⟨fun pins s σ H R I h => ?_⟩
  refine Call_ (ld_blt I hg hm boot_enumerate (PyProof.Rows.callWith_type1 (thn (ha.run pos pins s σ H _ I h) fun us s1 ⟨vs, H1, I1, r1, q1⟩ => ?_) hs rfl))
  obtain ⟨z, ex, q⟩ := q1
  subst ex
  cases r1 with
  | cons r rr =>
    cases rr
    obtain ⟨t, rfl⟩ := r
    refine call_enumerate_str fun h' he hit hsz hk => wpAny_pyIter_enum he ?_
    have I2 : Inv X pins σ H1 { s1 with heap := h' } := I1.kept (t' := s1.toks) hk
    refine ⟨s1.heap.objs.size + 1, [s1.heap.objs.size + 1, s1.heap.objs.size], _, _, H1, rfl, I2, turn_enumS z t (s1.heap.objs.size + 1) s1.heap.objs.size, ⟨⟨.none, he⟩, hit, Nat.succ_ne_self _, Nat.zero_le _⟩, fun b hb => ?_, q⟩
    have e' : b = s1.heap.objs.size + 1 ∨ b = s1.heap.objs.size := by simpa using hb
    have hle : s1.heap.objs.size ≤ b := by
      rcases e' with z | z
      · rw [z]; exact Nat.le_add_right _ _
      · rw [z]; exact Nat.le_refl _
    exact I1.fpOk hle (I1.hok.fresh hle)
end L2
namespace DL
open PySem PySem.Spec PyProof.Rows L2
variable [Tb]
theorem it_es {K : PySem.W.Frag} {O : List Addr} {H : Hp} (z : Str) : ItNew K (Itse z) (enumD 0 (signD z)) O H := by
  refine ⟨fun i d e => ?_, fun i l => ?_⟩
  · rw [enumD_at] at e
    unfold signD at e
    rw [List.getElem?_map] at e
    cases q : z.cps.toList[i]? with
    | none => rw [q] at e; cases e
    | some c =>
      rw [q] at e
      cases e
      rw [Array.getElem?_toList] at q
      refine ⟨(Array.getElem?_eq_some_iff.mp q).1, fun x H3 ⟨T, c', e1, hT, e2, f1⟩ => ?_⟩
      subst e1 e2
      rw [q] at f1; cases f1
      refine ⟨same_new hT, fun hO => ?_⟩
      rw [Nat.zero_add]
      exact rv_tup hT hO (.cons (.int _) (.cons (.str _) .nil))
  · rw [enumD_len] at l
    unfold signD at l
    rw [List.length_map, Array.length_toList] at l
    exact l
def dEnumS (d : PyData) (k : List PyData → Prop) : Prop := match d with
  | .str z => k (enumD 0 (signD z))
  | _ => False
theorem dEnumS_mo {d : PyData} {k k' : List PyData → Prop} (h : ∀ n, k n → k' n) (q : dEnumS d k) : dEnumS d k' := by
  cases d with
  | str n => exact h _ q
  | _ => exact q.elim
section
variable {X : Cx} {a tg iter elt : Expr} {ifs : List Expr} {elts : List Expr} {kk : Nat} {tpos : Pos} {pos p : Pos} {g : WG} {t : WB} {we : WR} {is vs : List Nat} {scope : Scope} {own : List (Str × Nat)}
/-- [elt for (k, x) in enumerate(a text) if ..] -/
theorem evc_lcEs {wi : WD} (h : Ev .sh X a wi) (ok : BlkOk X.N X.env.scope scope own) (hm : X.mg "enumerate" = none)
    (hg : ∀ (s : Shared) (H : Hp) (C : Addr) (cl : List (Str × Addr)) (fp : List Addr), EvG (X.blk s H scope (compEnvC scope cl C X.env) fp) (.Tuple elts kk tpos) is g)
    (ht : ∀ (s : Shared) (H : Hp) (C : Addr) (cl : List (Str × Addr)) (fp : List Addr), EvI (X.blk s H scope (compEnvC scope cl C X.env) fp) ifs t)
    (he : ∀ (s : Shared) (H : Hp) (C : Addr) (cl : List (Str × Addr)) (fp : List Addr), EvR (X.blk s H scope (compEnvC scope cl C X.env) fp) elt we)
    (hgl : Gl X "enumerate" := by rfl) (hsub : ∀ i ∈ is, i ∈ own.map (·.2) := by decide) {pos2 : Pos}
    (h1 : starEach [a] X.env = (false, eval a X.env) :: starEach [] X.env := by rfl) (h2 : starEach [a] X.env = [(false, eval a X.env)] := by rfl)
    (hs : ∀ x, foldedSetIterable (.Call (.Name "enumerate" p) [a] [] pos2) X.env x = pure x := by intro _; rfl) :
    EvC X elt (.Tuple elts kk tpos) (.Call (.Name "enumerate" p) [a] [] pos2) ifs scope (fun sd Q => wi sd fun d => dEnumS d fun ds =>
      (okVs sd (own.map (·.2)) = true ∧ ds.length ≤ sizeLine) ∧ lcW g t we (wipeD sd (own.map (·.2))) ds fun out => Q (.fr out)) where
  ex := ⟨own, _, _, _, _, pi_enumS hgl hm (pa_cons h.pe pa_nil h1) h2, ok, fun s H C cl fp => (hg s H C cl fp).pg, fun s H C cl fp => (ht s H C cl fp).pt, fun s H C cl fp => (he s H C cl fp).pe, hs,
    fun σ H Q ⟨c, sd, os, hk, r, q⟩ => by
    have hg' := (hg X.s_0 X.H_0 0 [] []).mo
    have ht' := (ht X.s_0 X.H_0 0 [] []).mo
    have he' := (he X.s_0 X.H_0 0 [] []).mo
    refine ⟨c, sd, os, hk, r, h.mo _ _ _ (fun d kz v H1 x1 dm => ?_) q⟩
    have rr := r.grow x1
    cases d with
    | str z =>
      obtain ⟨⟨k1, k2⟩, k3⟩ := kz
      have ev := shStr dm
      exact ⟨z, by rw [ev], fun D hD => lc_new hg' ht' he' hk rr hD (okVs_all k1) hsub (fun H2 x2 => it_es z) k2
        (lcW_mo hg' ht' he' _ _ _ _ (fun out kq v' H' x' rv => kq v' H' (x1.trans x') (RvR.from r.sO (fun b m => rr.there m) x1 rv)) k3)⟩
    | _ => exact kz.elim⟩
  mo := fun sd Q Q' k q => h.mo _ _ _ (fun d z => dEnumS_mo (fun ds z => ⟨z.1, lcW_mo (hg X.s_0 X.H_0 0 [] []).mo (ht X.s_0 X.H_0 0 [] []).mo (he X.s_0 X.H_0 0 [] []).mo _ _ _ _ (fun r y => k _ y) z.2⟩) z) q
end
end DL

set_option Elab.async false
set_option linter.all false
set_option maxRecDepth 100000
set_option maxHeartbeats 4000000
/-! repr of data that hold dicts, but no lists -/
namespace DL
open PySem PySem.Spec PyProof.Rows L2
variable [Tb]
mutual
/-- no list anywhere -/
def nl : PyData → Bool
  | .none => true
  | .bool _ => true
  | .int _ => true
  | .str _ => true
  | .list _ => false
  | .tuple ds => nlA ds
  | .dict es => nlK es
def nlA : List PyData → Bool
  | [] => true
  | d :: ds => nl d && nlA ds
def nlK : List (PyData × PyData) → Bool
  | [] => true
  | (_, d) :: es => nl d && nlK es
end
theorem pairs_keys {P : Program} {w : World} {h : Heap} : ∀ {es : List DictEntry} {kvs : List (Key × Value)}, Pairs (mixKind P w) es kvs → ReadsAll h (es.map (·.key)) (kvs.map fun p => keyD p.1) [] ∧ es.map (·.val) = kvs.map (·.2)
  | _, _, .nil => ⟨.nil, rfl⟩
  | _, _, .cons (e := e) (kv := kv) h1 h2 t => by
    obtain ⟨q1, q2⟩ := pairs_keys t
    refine ⟨?_, by rw [List.map_cons, List.map_cons, h2, q2]⟩
    obtain ⟨k, v⟩ := kv
    rcases keyIs_shape h1 with ⟨i, tk, e1, e2⟩ | ⟨x, tk, e1, e2⟩
    · have e1 : k = Sum.inl i := e1
      subst e1
      rw [List.map_cons, e2]
      exact ReadsAll.cons (as := []) (bs := []) (Reads.int i tk) q1
    · have e1 : k = Sum.inr x := e1
      subst e1
      rw [List.map_cons, e2]
      exact ReadsAll.cons (as := []) (bs := []) (Reads.str x tk) q1
theorem kv_vals : ∀ {kvs : List (Key × V)} {ws : List (Key × Value)}, KV kvs ws → (kvs.map fun p => keyD p.1) = (ws.map fun p => keyD p.1) ∧ Vals (kvs.map (·.2)) (ws.map (·.2))
  | _, _, .nil => ⟨rfl, .nil⟩
  | _, _, .cons h t => by
    obtain ⟨q1, q2⟩ := kv_vals t
    exact ⟨by rw [List.map_cons, List.map_cons, q1, h.1], .cons h.2 q2⟩
section
variable {X : Cx} {pins : List (Addr × Obj)} {σ : L2.St} {H : Hp} {s : Shared}
mutual
theorem Dx.readsX (I : Inv X pins σ H s) : ∀ (d : PyData) (v : V) (u : Value), Dx X.K H v d → RelV v u → nl d = true → ∃ as, Reads s.heap u d as ∧ sysModules ∉ as
  | .none, _, _, h, r, _ => by
    cases h
    cases r
    exact ⟨_, Reads.none, by simp⟩
  | .bool b, _, _, h, r, _ => by
    cases h
    cases r
    exact ⟨_, Reads.bool b, by simp⟩
  | .int i, _, _, h, r, _ => by
    cases h
    obtain ⟨t, rfl⟩ := r
    exact ⟨_, Reads.int i t, by simp⟩
  | .str x, _, _, h, r, _ => by
    cases h
    obtain ⟨t, rfl⟩ := r
    exact ⟨_, Reads.str x t, by simp⟩
  | .list ds, _, _, _, _, n => by simp [nl] at n
  | .tuple ds, _, _, h, r, n => by
    cases h with
    | tup hs ha =>
      cases r
      obtain ⟨its, rv, ⟨o, ho, hc, k, hd⟩, _⟩ := I.tuple hs
      obtain ⟨as, hr, hn⟩ := DxAll.readsX I ds _ its ha rv (by simpa [nl] using n)
      exact ⟨_, Reads.tuple ho hc hd hr, hn⟩
  | .dict es, _, _, h, r, n => by
    cases h with
    | dct h1 h2 h3 =>
      cases r
      obtain ⟨kvs, rfl, ek, ev⟩ := h2
      obtain ⟨_, hsys, ws, kv, o, xs, ep, ho, hx, hd, _, hp, _⟩ := I.hok _ _ h1
      obtain ⟨k1, k2⟩ := kv_vals kv
      obtain ⟨p1, p2⟩ := pairs_keys (h := s.heap) hp
      rw [ev] at h3
      obtain ⟨bs, hr, hn⟩ := DxKv.readsX I es _ _ h3 k2 (by simpa [nl] using n)
      rw [← k1, ← ek] at p1
      rw [← p2] at hr
      refine ⟨_, Reads.dict ho hx.1 hd p1 hr, ?_⟩
      intro m
      rcases List.mem_append.mp m with m | m
      · rw [List.mem_singleton] at m
        rw [← m] at hsys
        simp at hsys
      · exact hn m
theorem DxAll.readsX (I : Inv X pins σ H s) : ∀ (ds : List PyData) (vs : List V) (us : List Value), DxAll X.K H vs ds → Vals vs us → nlA ds = true → ∃ as, ReadsAll s.heap us ds as ∧ sysModules ∉ as
  | [], _, _, h, r, _ => by
    cases h
    cases r
    exact ⟨_, ReadsAll.nil, by simp⟩
  | d :: ds, _, _, h, r, n => by
    cases h with
    | cons h1 h2 =>
      cases r with
      | cons r1 r2 =>
        have n : nl d = true ∧ nlA ds = true := by simpa [nlA] using n
        obtain ⟨as, q1, m1⟩ := Dx.readsX I d _ _ h1 r1 n.1
        obtain ⟨bs, q2, m2⟩ := DxAll.readsX I ds _ _ h2 r2 n.2
        exact ⟨_, ReadsAll.cons q1 q2, fun m => (List.mem_append.mp m).elim m1 m2⟩
theorem DxKv.readsX (I : Inv X pins σ H s) : ∀ (es : List (PyData × PyData)) (vs : List V) (us : List Value), DxAll X.K H vs (es.map (·.2)) → Vals vs us → nlK es = true → ∃ as, ReadsAll s.heap us (es.map (·.2)) as ∧ sysModules ∉ as
  | [], _, _, h, r, _ => by
    cases h
    cases r
    exact ⟨_, ReadsAll.nil, by simp⟩
  | (k, d) :: es, _, _, h, r, n => by
    cases h with
    | cons h1 h2 =>
      cases r with
      | cons r1 r2 =>
        have n : nl d = true ∧ nlK es = true := by simpa [nlK] using n
        obtain ⟨as, q1, m1⟩ := Dx.readsX I d _ _ h1 r1 n.1
        obtain ⟨bs, q2, m2⟩ := DxKv.readsX I es _ _ h2 r2 n.2
        exact ⟨_, ReadsAll.cons q1 q2, fun m => (List.mem_append.mp m).elim m1 m2⟩
end
end
section
variable {X : Cx}
/-- the text of data without lists -/
theorem call_reprN (hg : X.A.guards = some []) (hu : X.A.units + 66 < cLine) : CallR X (.builtin "repr") (fun xs H Q => ∃ x d, xs = [x] ∧ Dx X.K H x d ∧ d.showable = true ∧
    nl d = true ∧ d.depth ≤ 64 ∧ d.shown.length ≤ sizeLine ∧ Q (.str d.shown) H) := by
  intro pins s σ H xs us Q I r h
  obtain ⟨x, d, rfl, hd, hs, hn, h64, hsz, q⟩ := h
  obtain ⟨u, rfl, rx⟩ := vals1 r
  have refs : ∀ {a : Addr}, u = .ref a → wpAny (model X.prog X.w) X.A (call (.builtin "repr") [u]) (EP X pins σ Q) X.xe s := by
    rintro a rfl
    obtain ⟨as, r1, m1⟩ := Dx.readsX I d x (.ref a) hd rx hn
    refine repr_of_reads' r1 hs (fun _ => m1) hg (by omega) (fun _ _ e => e) (fun h' u tk hk => ?_) hsz
    exact ⟨.str d.shown, H, I.kept hk, ⟨u, rfl⟩, q⟩
  cases hd with
  | non => cases rx; exact PySem.P.repr_of_none ⟨.str _, H, I.tok _, ⟨_, rfl⟩, q⟩
  | bl b => cases rx; exact PySem.P.repr_of_bool ⟨.str _, H, I.tok _, ⟨_, rfl⟩, q⟩
  | int i => obtain ⟨t, rfl⟩ := rx; exact PySem.P.repr_of_int (of_decide_eq_true hs) ⟨.str _, H, I.tok _, ⟨_, rfl⟩, q⟩
  | str z => obtain ⟨t, rfl⟩ := rx; exact PySem.P.repr_of_str ⟨.str _, H, I.tok _, ⟨_, rfl⟩, q⟩ hsz
  | lst h1 h2 => exact refs rx
  | tup h1 h2 => exact refs rx
  | dct h1 h2 h3 => exact refs rx
def okShowN (d : PyData) : Prop := (d.showable = true ∧ nl d = true ∧ d.depth ≤ 64) ∧ d.shown.length ≤ sizeLine
/-- data that hold a dict or a list, not both -/
def dReprX (d : PyData) (Q : RV → Prop) : Prop := (okShow d ∨ okShowN d) ∧ Q (.va (.str d.shown))
theorem cd_reprX (hr : RmG 1 X.A) : CallD X (.builtin "repr") .bo (rd1 dReprX) where
  ex := ⟨fun vs H Q => (∃ x d, vs = [x] ∧ Dp X.K H x d ∧ d.showable = true ∧ SeqAt.shaped d = true ∧ d.shown.length ≤ sizeLine ∧ Q (.str d.shown) H) ∨
      (∃ x d, vs = [x] ∧ Dx X.K H x d ∧ d.showable = true ∧ nl d = true ∧ d.depth ≤ 64 ∧ d.shown.length ≤ sizeLine ∧ Q (.str d.shown) H),
    fun pins s σ H xs us Q I r h => h.elim (fun h => call_reprD hr.gd (by have := hr.rm.un; omega) pins s σ H xs us Q I r h) (fun h => call_reprN hr.gd (by have := hr.rm.un; omega) pins s σ H xs us Q I r h),
    rd1_br fun S O H x d Q hs hO hd q => by
      obtain ⟨h, q⟩ := q
      rcases h with h | h
      · exact .inl ⟨x, d, rfl, boDp hd h.1.2, h.1.1, h.1.2, h.2, q _ H (Same.refl H) (.str _)⟩
      · exact .inr ⟨x, d, rfl, Dx.same hid_sub d x hd, h.1.1, h.1.2.1, h.1.2.2, h.2, q _ H (Same.refl H) (.str _)⟩⟩
  mo := rd1_mo fun d Q Q' k q => ⟨q.1, k _ q.2⟩
end
end DL

set_option Elab.async false
set_option linter.all false
set_option maxRecDepth 100000
set_option maxHeartbeats 4000000
/-! any of a generator expression over a list; the element x[0] in ('a', 'b', ..) -/
namespace DL
open PySem PySem.Spec PyProof.Rows L2
variable [Tb]
/-- a value's kind, and where it is a tuple its first thing's kind -/
def KndF (B : Kept) (v : Value) (d : PyData) : Prop := Knd B v d ∧ match d with
  | .tuple (d0 :: _) => ∃ (a : Addr) (o : Obj) (its : List Value) (n : Nat) (v0 : Value), v = .ref a ∧ B a o ∧ o.cls = .type "tuple" ∧ o.data = .seq its.toArray n ∧ its[0]? = some v0 ∧ Knd B v0 d0
  | _ => True
theorem kndF_of {X : Cx} {pins : List (Addr × Obj)} {σ : L2.St} {H : Hp} {s : Shared} {x : V} {u : Value} {d : PyData} {B : Kept} (I : Inv X pins σ H s) (rx : RelV x u) (h : Dx X.K H x d)
    (hB : ∀ b o, s.heap.get? b = some o → (o.cls = .type "list" ∨ o.cls = .type "tuple" ∨ o.cls = .type "dict") → B b o) : KndF B u d := by
  refine ⟨knd_of I rx h hB, ?_⟩
  cases h with
  | @tup a xs ds h1 h2 =>
    cases (show u = Value.ref a from rx)
    cases h2 with
    | nil => exact True.intro
    | @cons x0 xs0 d0 ds0 g0 t0 =>
      obtain ⟨its, o, n, rv, e, hc, hd⟩ := L2.sqT_at I.hok I.kIn h1
      obtain ⟨v0, e0, r0⟩ := rv.get (show (x0 :: xs0)[0]? = some x0 from rfl)
      exact ⟨a, o, its, n, v0, rfl, hB a o e (.inr (.inl hc)), hc, hd, e0, knd_of I r0 g0 hB⟩
  | _ => exact True.intro
/-- the test of one thing: quiet, where all that stood is kept -/
def EltF (X : Cx) (scope : Scope) (x : Str) (elt : Expr) (ok : PyData → Prop) (pb : PyData → Bool) : Prop :=
  ∀ (B : Kept) (env : Env) (m : Str → Option Value) (d : PyData) (u : Value), L2.Mod X.K X.mg X.base → (∀ b o, X.base.get? b = some o → B b o) → QEnv env → env.scope = scope → m x = some u → KndF B u d → ok d → Qe X.prog X.w B (X.A.depth + 1) env m elt (· = .bool (pb d))
section
variable {X : Cx} {pins : List (Addr × Obj)} {σ : L2.St} {H : Hp} {s : Shared}
theorem gen_lst {c P : Addr} {elt iter : Expr} {x : Str} {px gpos : Pos} {scope : Scope} {ok : PyData → Prop} {pb : PyData → Bool} {te : TE} {k : Nat} {Q' : Value → Shared → Prop} {R : List PyData → Hp → Prop}
    (hr : Room k X.A) (TB : GxR.TabB X.base X.mg c P) (hcode : X.env.code = .ref c) (S : GxR.GenS X.env scope x) (hi : PE X iter te) (hel : EltF X scope x elt ok pb)
    (hs : ∀ v, genFold iter X.env v = pure v) (I : Inv X pins σ H s)
    (h : te σ H fun v H1 => ∃ (a : Addr) (xs : List V) (ds : List PyData) (O : List Addr), v = .ref a ∧ SqL X.K H1 a xs ∧ DxAll X.K (hid O H1) xs ds ∧ (∀ d ∈ ds, ok d) ∧ GxR.TabG H1 P ∧ R ds H1)
    (hQ : ∀ ds H1 g s5, R ds H1 → RdyD X pins σ H1 P ds pb g s5 → Q' (.ref g) s5) :
    wpAny (model X.prog X.w) X.A (eval (.GeneratorExp elt [⟨.Name x px, iter, [], 0⟩] scope gpos) X.env) Q' X.xe s := by
  refine wpAny_GeneratorExp_walksQD hr.hd S.co (closure_ok S.free) S.cell S.dot S.loc S.kind (by have := hr.dp; omega) ?_ hs
  refine thn (hi.run pins s σ H _ I h) ?_
  rintro xv s1 ⟨v, H1, I1, r1, a, xs, ds, O, rfl, hT, hD, hok, ⟨ps, hP, ht⟩, q1⟩
  cases (show xv = Value.ref a from r1)
  obtain ⟨its, ot, nt, rv, eo, ec, ed⟩ := L2.sqL_at I1.hok I1.kIn hT
  have tup1 : s1.heap.IsList a its.toArray := ⟨ot, eo, ec, nt, ed⟩
  have len : its.length = ds.length := by rw [← rv.length]; exact hD.len
  refine wpAny_pyIter_list tup1 ?_
  generalize eit : ({ cls := .type "list_iterator", data := .fields #[.ref a, .int 0 0] } : Obj) = it
  have atP : s1.heap.get? P = some { cls := .none, data := .fields ps } := I1.hok P _ hP
  have ltP : P < s1.heap.objs.size := Heap.lt_size atP
  have lta : a < s1.heap.objs.size := Heap.lt_size eo
  have neP : ∀ b o, s1.heap.get? b = some o → (o.cls = .type "list" ∨ o.cls = .type "tuple" ∨ o.cls = .type "dict") → b ≠ P := fun b o e hc z => by
    rw [z, atP] at e
    cases e
    rcases hc with z | z | z <;> cases z
  have up : ∀ b o, s1.heap.get? b = some o → (s1.heap.push it).get? b = some o := fun b o e => Heap.get?_push_of_some _ e
  have iter0 : (s1.heap.push it).IsListIter s1.heap.objs.size a 0 := by
    subst eit
    exact ⟨_, Heap.get?_push_size _ rfl, rfl, rfl⟩
  have atP2 := up _ _ atP
  have cd : PySem.W.CodeHd (s1.heap.push it) c P := TB.code.keeps fun b u e => up b u (I1.bk b u e)
  have lim2 : (s1.heap.push it).NoLimit := I1.nolimit.push it
  -- behind the making of the code object, whether it was there or not
  have go : ∀ (code : Value) (h3 : Heap) (tk : Nat) (ps' : Array Value), Heap.ExtBut P (s1.heap.push it) h3 → (s1.heap.push it).objs.size ≤ h3.objs.size → h3.get? P = some { cls := .none, data := .fields ps' } → (∃ more, ps' = ps ++ more) → TriplesOk ps'.toList →
      wpAny (model X.prog X.w) X.A (builtinsFor X.env.globals X.env.builtins) (fun bi s₄ =>
        ∃ Ia fp wr n₀ Pf St₀ pz F, Value.ref s1.heap.objs.size = .ref Ia ∧ (∀ A' : Around, A'.handled = none → Walks X.prog X.w A' Ia fp wr n₀ Pf St₀) ∧ St₀ 0 s₄.heap ∧ (∀ b ∈ fp, b < s₄.heap.objs.size) ∧ s₄.heap.NoLimit ∧ cStatics ∉ wr ∧
          (∀ href : Heap, (∀ b o, s₄.heap.get? b = some o → href.get? b = some o) →
            QuietGenD X.prog X.w (genEnv scope (cloFrom X.env.cells scope.names []) s₄.heap.objs.size code bi X.env) x [] elt (List.range s₄.heap.objs.size) wr Pf pz F href (X.A.depth + 1) (X.A.units + 8)) ∧
          (∀ a h₅ tk gs, gs.bare = true → s₄.heap.objs.size < a → h₅.objs.size = a + 1 → (∀ b o, s₄.heap.get? b = some o → h₅.get? b = some o) →
            WalksS X.prog X.w X.A.in4 a (a :: s₄.heap.objs.size :: List.range s₄.heap.objs.size) (s₄.heap.objs.size :: wr) (GenOnlyQ s₄.gens.size) (passing pz n₀ 0).length
              (fun j y => ∃ i, (passing pz n₀ 0)[j]? = some i ∧ F i y) (GenAt X.prog X.w X.A.in4 a s₄.gens.size s₄.heap.objs.size (List.range s₄.heap.objs.size) wr pz n₀ F) →
            GenAt X.prog X.w X.A.in4 a s₄.gens.size s₄.heap.objs.size (List.range s₄.heap.objs.size) wr pz n₀ F 0 { s₄ with gens := s₄.gens.push gs, toks := tk, heap := h₅ } →
            Q' (.ref a) { s₄ with gens := s₄.gens.push gs, toks := tk, heap := h₅ })) X.xe { s1 with heap := h3, toks := tk } := by
    rintro code h3 tk _ grown big atP3 ⟨more, rfl⟩ ht3
    obtain ⟨bm, ob, e1, e2, e3, e4, e5, e6, e7, e8⟩ := TB.bm
    have lts : cStatics < s1.heap.objs.size := let ⟨_, hns, _⟩ := I1.nolimit; hns.lt
    have nesP : cStatics ≠ P := fun z => by
      obtain ⟨_, ⟨o', es, ep, ho, hd, _⟩, _⟩ := I1.nolimit
      rw [z, atP] at ho
      cases ho
      cases hd
    have size2 : (s1.heap.push it).objs.size = s1.heap.objs.size + 1 := Heap.size_push ..
    have keep : ∀ b u, b ≠ P → s1.heap.get? b = some u → h3.get? b = some u := fun b u n e => grown b u n (up b u e)
    have iter3 : h3.IsListIter s1.heap.objs.size a 0 := iter0.at fun u e => grown _ u (Nat.ne_of_gt ltP) e
    have tup3 : h3.IsList a its.toArray := ⟨ot, keep _ _ (neP a ot eo (.inl ec)) eo, ec, nt, ed⟩
    refine wpAny_builtinsFor (m := X.mg) (by rw [I1.ok.glob]; exact ((I1.mod.glob.keeps I1.bk).push it).extBut grown TB.gP) e1 e2 (keep _ _ e4 (I1.bk _ _ e5)) e6 e7 e8 ?_
    refine ⟨_, [s1.heap.objs.size, a], [s1.heap.objs.size], its.toArray.size, (fun i v => its.toArray[i]? = some v), (fun i h => h.IsListIter s1.heap.objs.size a i ∧ h.IsList a its.toArray), (fun _ => true), (fun i y => ∃ d, ds[i]? = some d ∧ y = .bool (pb d)), rfl,
      fun A' hA => Walks.list hA _ _ (Nat.ne_of_lt lta) _, ⟨iter3, tup3⟩, fun b m => ?_, lim2.extBut grown nesP, fun m => ?_, fun href sub => ⟨?_, ?_⟩, ?_⟩
    · have big1 : s1.heap.objs.size < h3.objs.size := Nat.lt_of_lt_of_le (by rw [size2]; exact Nat.lt_succ_self _) big
      show b < h3.objs.size
      rcases List.mem_cons.mp m with z | m
      · rw [z]; exact big1
      · rw [List.mem_singleton.mp m]; exact Nat.lt_trans lta big1
    · exact Nat.ne_of_lt lts (List.mem_singleton.mp m)
    · intro A' E' i v s₂ m₂ _ _ _ _ _ _ _
      simp only [List.forIn_nil]
      exact wpAny_pure ⟨rfl, GxR.keeps_refl _⟩
    · intro A' E' i v s₂ m₂ _ dp _ hv _ hn hm hk
      have hv2 : its[i]? = some v := by simpa using hv
      have il : i < its.length := (List.getElem?_eq_some_iff.mp hv2).1
      obtain ⟨y, hy⟩ : ∃ y, xs[i]? = some y := ⟨xs[i]'(by rw [rv.length]; exact il), List.getElem?_eq_getElem _⟩
      obtain ⟨u, hu, ru⟩ := rv.get hy
      rw [hv2] at hu
      cases hu
      obtain ⟨d, hd, dx⟩ := hD.get' hy
      -- all that stood ahead of it but for the table and the iterator is kept
      let B : Kept := fun b o => b ≠ P ∧ s1.heap.get? b = some o
      have kb : KIn B s₂.heap := fun b o e => hk b (List.mem_range.mpr (by
          have l := Heap.lt_size e.2
          have big1 : s1.heap.objs.size < h3.objs.size := Nat.lt_of_lt_of_le (by rw [size2]; exact Nat.lt_succ_self _) big
          exact Nat.lt_trans l big1)) (fun m => by
          have l := Heap.lt_size e.2
          rw [List.mem_singleton.mp m] at l
          exact Nat.lt_irrefl _ l) o (sub b o (keep b o e.1 e.2))
      have inB : ∀ b o, X.base.get? b = some o → B b o := fun b o e => ⟨fun z => (by
          have := (I1.bs b o e).2
          rw [z, hP] at this
          cases this), I1.bk b o e⟩
      have kd : KndF B v d := kndF_of I1 ru (Dx.same hid_sub d y dx) fun b o e hc => ⟨neP b o e hc, e⟩
      have qv : QEnv (genEnv scope (cloFrom X.env.cells scope.names []) h3.objs.size code builtinsNs X.env) := ⟨S.kind, I1.ok.glob, rfl⟩
      exact wpAny_mono (hel B _ m₂ d v I1.mod inB qv rfl hm kd (hok d (List.mem_of_getElem? hd)) A' E' s₂ dp kb hn) (fun y s3 r => ⟨⟨d, hd, r.1⟩, r.2⟩) fun _ _ e => e
    · intro g h5 tk5 gs bare ag sz5 k5 W5 at0
      simp only [GxR.passing_true, List.length_range] at W5
      have n5 : its.toArray.size = ds.length := by rw [List.size_toArray, len]
      rw [n5] at W5 at0
      refine hQ ds H1 g _ q1 ⟨_, _, _, _, _, W5.in4_1, at0, ?_, fun s' hm => ?_⟩
      · rintro j y sj Qj Ej ⟨i, hij, d, hd, rfl⟩ hQj
        obtain ⟨hj, ej⟩ := List.getElem?_eq_some_iff.mp hij
        rw [List.getElem_range] at ej
        subst ej
        refine wpAny_truthy_bool ?_
        have e : trD pb ds j = pb d := by unfold trD; rw [hd]
        rw [← e]
        exact hQj
      · have apart : ∀ b u, s1.heap.get? b = some u → b ∉ h3.objs.size :: [s1.heap.objs.size] := fun b u e m => by
          have l := Heap.lt_size e
          rcases List.mem_cons.mp m with z | m
          · rw [z] at l
            have : (h3.objs.size : Nat) < s1.heap.objs.size := l
            omega
          · rw [List.mem_singleton.mp m] at l
            exact Nat.lt_irrefl _ l
        have J := GxR.inv_tab (more := more) (h' := s'.heap) (g' := s'.gens) (d' := s'.drawn) (t' := s'.toks) I1 hP (fun b u n e => hm.heap b u (apart b u e) (k5 b u (keep b u n e)))
          (hm.heap P _ (apart P _ atP) (k5 P _ atP3)) (AllBare.movedS (I1.bare.push bare) hm)
        rw [GxR.sh_eta s1 s' hm.os] at J
        exact ⟨upd H1 P (.tbl (ps ++ more)), ⟨⟨ps ++ more, upd_same, ht3⟩, fun b n => upd_ne n⟩, J⟩
  refine ⟨lim2, ?_⟩
  cases hf : codeAmong gpos ps.toList with
  | some cv => exact wpAny_genexprCode_hit hcode (cd.code atP2 ht) hf (go cv _ s1.toks ps (Heap.ExtBut.refl _ _) (Nat.le_refl _) atP2 ⟨#[], by simp⟩ ht)
  | none =>
    refine wpAny_genexprCodeX hcode (cd.code atP2 ht) (cd.tab atP2) hf ?_
    intro c' h' tk hx hge hlt hco' _ htab' _
    obtain ⟨o1, vs, f1, tf, fl, tg, inF, tx, tt, op, _, _, _, _, _, _, _, _, _, htr, _⟩ := hco'
    exact go _ h' tk _ hx (Nat.le_trans hge (Nat.le_of_lt hlt)) htab'.2 ⟨_, rfl⟩ htr
def tAnyL (K : PySem.W.Frag) (P : Addr) (ok : PyData → Prop) (pb : PyData → Bool) (te : TE) : TE := fun σ H Q => te σ H fun v H1 => ∃ (a : Addr) (xs : List V) (ds : List PyData) (O : List Addr), v = .ref a ∧ SqL K H1 a xs ∧ DxAll K (hid O H1) xs ds ∧ (∀ d ∈ ds, ok d) ∧ GxR.TabG H1 P ∧
  ∀ H2, GxR.Tabbed P H1 H2 → Q (.bl (ds.any pb)) H2
theorem pe_anyL {c P : Addr} {elt iter : Expr} {x : Str} {px p pos gpos : Pos} {scope : Scope} {ok : PyData → Prop} {pb : PyData → Bool} {te : TE} {k : Nat}
    (hr : Room k X.A) (hg : Gl X "any") (hm : X.mg "any" = none) (hb : bootBuiltins "any" = some (.builtin "any")) (TB : GxR.TabB X.base X.mg c P) (hcode : X.env.code = .ref c) (S : GxR.GenS X.env scope x) (hi : PE X iter te) (hel : EltF X scope x elt ok pb)
    (hs : ∀ v, genFold iter X.env v = pure v)
    (he : starEach [.GeneratorExp elt [⟨.Name x px, iter, [], 0⟩] scope gpos] X.env = (false, eval (.GeneratorExp elt [⟨.Name x px, iter, [], 0⟩] scope gpos) X.env) :: starEach [] X.env := by rfl) :
    PE X (.Call (.Name "any" p) [.GeneratorExp elt [⟨.Name x px, iter, [], 0⟩] scope gpos] [] pos) (tAnyL X.K P ok pb te) := by
  constructor
  intro pins s σ H Q I h
  refine wpAny_Call_Name_kw (ld_blt I hg hm hb ?_)
  refine PyProof.Rows.callWith_builtin1 ?_ he (by rfl)
  rw [he]
  show wpAny _ _ (spliced ((false, eval (.GeneratorExp elt [⟨.Name x px, iter, [], 0⟩] scope gpos) X.env) :: backTo pos (starEach [] X.env))) _ _ s
  refine Calls.spliced_cons (gen_lst (R := fun ds H1 => ∀ H2, GxR.Tabbed P H1 H2 → Q (.bl (ds.any pb)) H2) hr TB hcode S hi hel hs I h ?_)
  rintro ds H1 g s5 hR ⟨fp, wr, G, F, St, W, hst, htr, hI⟩
  refine Calls.spliced_nil (call_any_walkS (W.self 0 _ _ _ hst ⟨g, fp, wr, G, _, F, St, _, rfl, W, hst, htr, fun s' hmv => ?_⟩))
  obtain ⟨H2, hT, J⟩ := hI s' hmv
  rw [any_trD]
  exact ⟨.bl _, H2, J, rfl, hR H2 hT⟩
end
theorem shLstD {K : PySem.W.Frag} {S O : List Addr} {H : Hp} {x : V} {ds : List PyData} (h : DM .sh K S O H x (.list ds)) : ∃ a xs, x = .ref a ∧ SqL K H a xs ∧ DxAll K (hid O H) xs ds := by
  obtain ⟨a, xs, e, h1, h2⟩ := h
  exact ⟨a, xs, e, .inl (.inl (hid_some h1).2), h2⟩
section
variable {X : Cx} {elt iter : Expr} {x : Str} {px p pos gpos : Pos} {scope : Scope} {ok : PyData → Prop} {pb : PyData → Bool} {fd : FuncData} {c P : Addr} {k : Nat} {w : WD}
def wAnyL (ok : PyData → Prop) (f : List PyData → Bool) (w : WD) : WR := fun sd Q => w sd fun d => match d with
  | .list ds => (∀ d ∈ ds, ok d) ∧ Q (.va (.bool (f ds)))
  | _ => False
theorem wAnyL_mo {ok : PyData → Prop} {f : List PyData → Bool} (h : Ev .sh X iter w) : ∀ sd (Q Q' : RV → Prop), (∀ r, Q r → Q' r) → wAnyL ok f w sd Q → wAnyL ok f w sd Q' := fun sd Q Q' k q => h.mo _ _ _ (fun d z => by
  cases d with
  | list ds => exact ⟨z.1, k _ z.2⟩
  | _ => exact z.elim) q
theorem wAnyL_run {f : List PyData → Bool} (h : Ev .sh X iter w) (m : P ∈ (Tb.Ts : List Addr)) {σ : L2.St} {H : Hp} {Q : VK} (q : tR X.K (wAnyL ok f w) σ H Q) :
    tM .sh X.K w σ H fun v H1 => ∃ (a : Addr) (xs : List V) (ds : List PyData) (O : List Addr), v = .ref a ∧ SqL X.K H1 a xs ∧ DxAll X.K (hid O H1) xs ds ∧ (∀ d ∈ ds, ok d) ∧ GxR.TabG H1 P ∧ ∀ H2, GxR.Tabbed P H1 H2 → Q (.bl (f ds)) H2 := by
  obtain ⟨c, sd, os, hk, r, q⟩ := q
  refine ⟨c, sd, os, hk, r, h.mo _ _ _ (fun d k v H1 x1 dm => ?_) q⟩
  cases d with
  | list ds =>
    obtain ⟨a, us, rfl, h1, h2⟩ := shLstD dm
    have r1 := r.grow x1
    exact ⟨a, us, ds, OO c os, rfl, h1, h2, k.1, r1.srcNow.2 P m, fun H2 ht => k.2 _ H2 (x1.trans (ext_tab r1.srcNow m ht)) (.bl _)⟩
  | _ => exact k.elim
theorem evr_anyL (G : GenT X.mg X.base fd c P) (hcode : X.env.code = fd.code) (hr : RmG k X.A) (hm : X.mg "any" = none) (hb : bootBuiltins "any" = some (.builtin "any")) (hgo : genOk scope x = true) (h : Ev .sh X iter w) (hel : EltF X scope x elt ok pb)
    (hg : Gl X "any" := by rfl) (hs : ∀ v, genFold iter X.env v = pure v := by intro _; rfl)
    (he : starEach [.GeneratorExp elt [⟨.Name x px, iter, [], 0⟩] scope gpos] X.env = (false, eval (.GeneratorExp elt [⟨.Name x px, iter, [], 0⟩] scope gpos) X.env) :: starEach [] X.env := by rfl) :
    EvR X (.Call (.Name "any" p) [.GeneratorExp elt [⟨.Name x px, iter, [], 0⟩] scope gpos] [] pos) (wAnyL ok (fun ds => ds.any pb) w) where
  pe := PE.weak (pe_anyL hr.rm hg hm hb G.tb (hcode.trans G.hc) (gens_of hgo) h.pe hel hs he) fun σ H Q q => wAnyL_run h G.mem q
  mo := wAnyL_mo h
/-- a tuple's texts, as they stand -/
def strsOf : List Expr → Option (List Str)
  | [] => some []
  | .Constant (.str x) _ _ :: r => (strsOf r).map (x :: ·)
  | _ => none
theorem strs_run {prog : Program} {w : World} {A : Around} {E : Value → Shared → Prop} {env : Env} {pos : Pos} : ∀ (es : List Expr) (ss : List Str), strsOf es = some ss → ∀ s : Shared, wpAny (model prog w) A (spliced (backTo pos (starEach es env))) (fun vs s1 => StrsAre vs ss ∧ Keeps s s1) E s
  | [], ss, h, s => by
    cases h
    exact Calls.spliced_nil ⟨.nil, GxR.keeps_refl s⟩
  | .Constant (.str x) k p :: r, ss, h, s => by
    obtain ⟨ss', h', rfl⟩ := Option.map_eq_some_iff.mp (show (strsOf r).map (x :: ·) = some ss from h)
    refine wpAny_items_cons (wpAny_Constant_str ?_) rfl
    exact wpAny_mono (strs_run r ss' h' _) (fun vs s2 q => ⟨.cons x _ q.1, keeps_tr (GxR.keeps_tok s _) q.2⟩) fun _ _ z => z
/-- a thing's first thing, where that is a text -/
def hdS : PyData → Option Str
  | .str y => (y.cps[0]?).map fun c => ⟨#[c]⟩
  | .tuple (.str z :: _) => some z
  | _ => none
def hdIn (ss : List Str) (d : PyData) : Bool := match hdS d with
  | some z => ss.any (· == z)
  | none => false
theorem elt_hdIn {es : List Expr} {ss : List Str} {p1 p2 p3 p4 p5 : Pos} {k1 k2 : Nat} (hss : strsOf es = some ss) (hn : es.length ≤ sizeLine) (hx : scope.names.lookup x = some .local) (hdx : (x == ("__debug__" : Str)) = false := by decide) (hmk : behindInMarks .In (.Tuple es k2 p4) = false := by with_unfolding_all rfl) :
    EltF X scope x (.Compare (.Subscript (.Name x p1) (.Constant (.int 0) k1 p2) p3) [.In] [.Tuple es k2 p4] p5) (fun d => (hdS d).isSome = true) (hdIn ss) := fun B env m d u M hB qv hsc hm kd hok A E s dp kb hns => by
  obtain ⟨z, hz⟩ := Option.isSome_iff_exists.mp hok
  have e : hdIn ss d = ss.any (· == z) := by unfold hdIn; rw [hz]
  rw [e]
  -- the texts, made anew, and the test
  have fin : ∀ (s1 : Shared) (t : Tok), Keeps s s1 → wpAny (model X.prog X.w) A (eval (.Tuple es k2 p4) env) (fun b s2 => wpAny (model X.prog X.w) A (compareOp .In (.str z t) b) (fun y s3 => y = .bool (ss.any (· == z)) ∧ Keeps s s3) E s2) E s1 := fun s1 t k => by
    refine wpAny_Tuple (wpAny_mono (strs_run es ss hss s1) (fun vs s2 q => ?_) fun _ _ z => z)
    obtain ⟨h1, h2⟩ := q
    have k2 := keeps_tr k h2
    have hl : vs.length = es.length := by
      have : ∀ (es : List Expr) (ss : List Str), strsOf es = some ss → ss.length = es.length := by
        intro es
        induction es with
        | nil => intro ss h; cases h; rfl
        | cons e es ih =>
          intro ss h
          unfold strsOf at h
          split at h
          · rename_i e'; cases e'
          · rename_i x k p r e'
            cases e'
            obtain ⟨ss', h', rfl⟩ := Option.map_eq_some_iff.mp h
            rw [List.length_cons, List.length_cons, ih _ h']
          · cases h
      have h3 : ∀ {vs : List Value} {ys : List Str}, StrsAre vs ys → vs.length = ys.length := by
        intro vs ys h
        induction h with
        | nil => rfl
        | cons y t h ih => rw [List.length_cons, List.length_cons, ih]
      rw [h3 h1, this es ss hss]
    refine ⟨by rw [hl]; exact hn, ?_⟩
    refine in_tuple_strs (items := vs.toArray) ⟨_, Heap.get?_push_size _ rfl, rfl, _, rfl⟩ (by simpa using h1) ⟨rfl, ?_⟩
    exact keeps_tr k2 ⟨_, _, rfl, fun b o e => Heap.get?_push_of_some _ e⟩
  refine wpAny_Compare1 ?_ hmk
  refine wpAny_Subscript_Constant_late (wpAny_mono (qe_loc qv (by show env.scope.names.lookup x = _; rw [hsc]; exact hx) hm hdx A E s dp kb hns) (fun o s1 r => ?_) fun _ _ z => z)
  obtain ⟨rfl, k1⟩ := r
  refine wpAny_Constant_int ?_
  have k2 := keeps_tr k1 (GxR.keeps_tok s1 (s1.toks + 1))
  have kb2 := kb.go k2
  cases d with
  | str y =>
    obtain ⟨c, hc, rfl⟩ := Option.map_eq_some_iff.mp (show (y.cps[0]?).map (fun c => (⟨#[c]⟩ : Str)) = some z from hz)
    obtain ⟨t, rfl⟩ := (show ∃ t, o = .str y t from kd.1)
    refine ⟨"str", _, slot_str_getitem.lookup, rfl, getItem_str (c := c) (by decide) ?_ ?_⟩
    · have l0 : 0 < y.length := by
        have := (Array.getElem?_eq_some_iff.mp hc).1
        exact this
      have : seqIndex? 0 y.length = some 0 := by
        rw [seqIndex_of (by omega) (by omega)]; rfl
      rw [this]
      exact hc
    · exact fin _ _ (keeps_tr k2 (GxR.keeps_tok _ _))
  | tuple ds =>
    cases ds with
    | nil => cases hz
    | cons d0 ds =>
      cases d0 with
      | str z' =>
        cases (show some z' = some z from hz)
        obtain ⟨a, o', its, n, v0, rfl, h1, h2, h3, h4, h5⟩ := kd.2
        obtain ⟨t, rfl⟩ := (show ∃ t, v0 = .str z t from h5)
        have l0 : 0 < its.length := (List.getElem?_eq_some_iff.mp h4).1
        have T : IsTup s1.heap a its.toArray := ⟨o', (kb.go k1) a o' h1, h2, n, h3⟩
        refine ⟨"tuple", _, slot_tuple_getitem.lookup, T.typeIs, getItem_tuple (j := 0) T (by decide) (by decide) ?_ (by simpa using h4) (fin _ _ k2)⟩
        rw [List.size_toArray, seqIndex_of (by omega) (by omega)]
        rfl
      | _ => cases hz
  | _ => cases hz
end
end DL

set_option Elab.async false
set_option linter.all false
set_option maxRecDepth 100000
set_option maxHeartbeats 4000000
/-! a dict of the module, its keys texts: walked, and asked; for .. in enumerate(a list) -/
namespace L2
open PySem PySem.Spec PyProof.Rows
def Itks (zs : List Str) : It := ⟨fun i _ => i < zs.length, fun i H v H' => H' = H ∧ ∃ z, zs[i]? = some z ∧ v = .str z, fun i _ => zs.length ≤ i⟩
/-- the entries' keys are these texts -/
def KeyS : List DictEntry → List Str → Prop
  | [], [] => True
  | e :: r, z :: zs => (∃ t, e.key = .str z t) ∧ KeyS r zs
  | _, _ => False
theorem KeyS.len : ∀ {es : List DictEntry} {zs : List Str}, KeyS es zs → es.length = zs.length
  | [], [], _ => rfl
  | _ :: _, _ :: _, h => by rw [List.length_cons, List.length_cons, KeyS.len h.2]
theorem KeyS.get : ∀ {es : List DictEntry} {zs : List Str}, KeyS es zs → ∀ {i : Nat} {e : DictEntry}, es[i]? = some e → ∃ z t, zs[i]? = some z ∧ e.key = .str z t
  | e :: _, z :: _, h, 0, _, q => by
    cases q
    obtain ⟨t, k⟩ := h.1
    exact ⟨z, t, rfl, k⟩
  | _ :: _, _ :: _, h, i + 1, e, q => KeyS.get h.2 (i := i) q
  | [], [], _, i, _, q => by cases i <;> cases q
theorem turn_kd {P : Program} {w : World} {K : PySem.W.Frag} {tg : Expr} {d it : Addr} {es : Array DictEntry} {n : Nat} {zs : List Str} (hl : K.lookup d = some ⟨.type "dict", none, .dict es n, #[]⟩) (hks : KeyS es.toList zs) :
    Turn P w K tg (Itks zs) [it] it (fun i h => h.IsKeyIter it d i es.size n) where
  mem := by simp
  obj := fun i h st b hb => by
    have e : b = it := by simpa using hb
    subst e
    obtain ⟨oi, e, c, dd⟩ := st
    exact ⟨oi, e, fun v z => by rw [dd] at z; cases z⟩
  keep := fun i h h' st k => st.at fun oi e => k it (by simp) oi e
  item := by
    intro X hP hw hK hc i pins s σ H E I hf st hg
    subst hP hw hK
    have hg : i < zs.length := hg
    obtain ⟨f0, f1, f2, f3, f4, f5⟩ := hf it (by simp)
    have hm : s.heap.DictRaw d es n := ⟨_, I.kIn _ _ hl, ⟨rfl, rfl, rfl⟩, rfl⟩
    have hi : i < es.size := by
      have := hks.len
      rw [Array.length_toList] at this
      omega
    refine wpAny_pyNext_keys_item_raw st hm hi fun h' st' sb => ?_
    obtain ⟨z, t, hz, hk⟩ := hks.get (i := i) (e := es[i]) (by rw [Array.getElem?_toList]; exact Array.getElem?_eq_getElem hi)
    have I1 : Inv X pins σ H { s with heap := h' } := I.turned (t' := s.toks) (fun b ob hb e => (sb.2 b hb).trans e) f0 f1 f3 f4 f5
    obtain ⟨oi, e, c, dd⟩ := id st'
    exact ⟨_, rfl, go_of (s := { s with heap := h' }) e c dd (by decide) ⟨.str z, H, I1, ⟨t, hk⟩, ⟨rfl, z, hz, rfl⟩, st', fun b hb => (hf b hb).1⟩⟩
  done := by
    intro X hP hw hK hc i pins s σ H E I hf st hg
    subst hP hw hK
    have hg : zs.length ≤ i := hg
    obtain ⟨f0, f1, f2, f3, f4, f5⟩ := hf it (by simp)
    have hm : s.heap.DictRaw d es n := ⟨_, I.kIn _ _ hl, ⟨rfl, rfl, rfl⟩, rfl⟩
    have hi : es.size ≤ i := by
      have := hks.len
      rw [Array.length_toList] at this
      omega
    exact wpAny_pyNext_keys_end_raw (I.ok.hd hc) st hm hi fun h' eb => ⟨rfl, I.turned (t' := s.toks) (fun b ob hb e => eb b ob hb e) f0 f1 f3 f4 f5⟩
  self := fun A i s Q E st h => by
    refine wpAny_pyIter_slot st.typeIs F.slot_dict_keyiterator_iter (wpAny_call_entry F.slot_dict_keyiterator_iter st.typeIs F.entry_dict_keyiterator_iter ?_ (F.args_dict_keyiterator_iter_1 _))
    show wpAny _ _ (ret (.ref it)) _ _ s
    exact wpAny_pure ⟨_, rfl, "dict_keyiterator", _, st.typeIs, F.slot_dict_keyiterator_next.lookup, h⟩
theorem pi_kd {X : Cx} {tg : Expr} {y : Str} {p : Pos} {d : Addr} {es : Array DictEntry} {n : Nat} {zs : List Str} (hg : Gl X y) (hm : X.mg y = some (.ref d)) (hl : X.K.lookup d = some ⟨.type "dict", none, .dict es n, #[]⟩) (lo : (d == sysModules) = false) (hks : KeyS es.toList zs) (hdb : (y == ("__debug__" : Str)) = false := by decide) :
    PI X tg (.Name y p) (fun _ H R => R (Itks zs) H) := by
  refine ⟨fun pins s σ H R I h => ?_⟩
  refine thn ((pe_glob (v := .ref d) hg hm rfl hdb).run pins s σ H (fun v H1 => v = .ref d ∧ R (Itks zs) H1) I ⟨rfl, h⟩) fun u s1 ⟨x, H1, I1, rx, ex, q⟩ => ?_
  subst ex
  obtain rfl : u = Value.ref d := rx
  have hr : s1.heap.DictRaw d es n := ⟨_, I1.kIn _ _ hl, ⟨rfl, rfl, rfl⟩, rfl⟩
  exact wpAny_pyIter_dict_raw lo hr (pi_one (tk := s1.toks) I1 _ (turn_kd hl hks) ⟨_, Heap.get?_push_size _ rfl, rfl, rfl⟩ q)
end L2
namespace DL
open PySem PySem.Spec PyProof.Rows L2
/-- a table of the module: its keys in their order, and what stands at them -/
structure KTab (K : PySem.W.Frag) (w : World) (mg : Str → Option Value) (y : Str) (tab : List (Str × PyData)) : Prop where
  ex : ∃ (d : Addr) (es : Array DictEntry) (n : Nat), mg y = some (.ref d) ∧ K.lookup d = some ⟨.type "dict", none, .dict es n, #[]⟩ ∧ PySem.W.KeysLit w.params es.toList ∧ (d == sysModules) = false ∧ KeyS es.toList (tab.map (·.1)) ∧
    ∀ p ∈ tab, ∃ u v, PySem.W.nsIn K d p.1 = some (some u) ∧ RelV v u ∧ ∀ H, Dx K H v p.2
def StrS : List Value → List Str → Prop
  | [], [] => True
  | v :: r, z :: zs => (∃ t, v = .str z t) ∧ StrS r zs
  | _, _ => False
theorem StrS.vals : ∀ {vs : List Value} {zs : List Str}, StrS vs zs → Vals (zs.map V.str) vs
  | [], [], _ => .nil
  | _ :: _, _ :: _, h => .cons h.1 (StrS.vals h.2)
theorem dx_strs {K : PySem.W.Frag} {H : Hp} : ∀ zs : List Str, DxAll K H (zs.map V.str) (zs.map PyData.str)
  | [] => .nil
  | z :: zs => .cons (.str z) (dx_strs zs)
def TabV (K : PySem.W.Frag) (d : Addr) (tab : List (Str × PyData)) : Prop := ∀ p ∈ tab, ∃ u v, PySem.W.nsIn K d p.1 = some (some u) ∧ RelV v u ∧ ∀ H, Dx K H v p.2
theorem tabV_nil {K : PySem.W.Frag} {d : Addr} : TabV K d [] := fun p m => (by cases m)
theorem tabV_cons {K : PySem.W.Frag} {d : Addr} {k : Str} {a : Addr} {dd : Option Addr} {its : Array Value} {n : Nat} {sl : Array (Option Value)} {zs : List Str} {tab : List (Str × PyData)} (h1 : PySem.W.nsIn K d k = some (some (.ref a))) (h2 : K.lookup a = some ⟨.type "tuple", dd, .seq its n, sl⟩) (h3 : StrS its.toList zs) (h : TabV K d tab) (hz : zs.length ≤ 1000 := by decide) :
    TabV K d ((k, .tuple (zs.map .str)) :: tab) := fun p m => by
  rcases List.mem_cons.mp m with rfl | m
  · have l := h3.vals.length
    rw [List.length_map] at l
    have l2 : its.toList.length = its.size := Array.length_toList
    have : 1000 ≤ sizeLine := by decide
    exact ⟨_, .ref a, h1, rfl, fun H => .tup (.inr ⟨_, its, n, h2, rfl, rfl, by omega, h3.vals⟩) (dx_strs zs)⟩
  · exact h p m
variable [Tb]
theorem it_ks {K : PySem.W.Frag} {O : List Addr} {H : Hp} (zs : List Str) : ItNew K (Itks zs) (zs.map .str) O H := by
  refine ⟨fun i d e => ?_, fun i l => ?_⟩
  · rw [List.getElem?_map] at e
    cases q : zs[i]? with
    | none => rw [q] at e; cases e
    | some z =>
      rw [q] at e
      cases e
      refine ⟨(List.getElem?_eq_some_iff.mp q).1, fun x H3 ⟨e1, z', q', e2⟩ => ?_⟩
      subst e1 e2
      rw [q] at q'
      cases q'
      exact ⟨Same.refl _, fun hO => .str _⟩
  · rw [List.length_map] at l
    exact l
section
variable {X : Cx} {a b tg iter elt : Expr} {ifs : List Expr} {elts : List Expr} {kk : Nat} {tpos : Pos} {pos p : Pos} {g : WG} {t : WB} {we : WR} {wb : WS} {is vs : List Nat} {scope : Scope} {own : List (Str × Nat)} {y : Str} {tab : List (Str × PyData)} {body : List Stmt}
/-- [elt for k in a dict of the module if ..] -/
theorem evc_lcK (T : KTab X.K X.w X.mg y tab) (ok : BlkOk X.N X.env.scope scope own)
    (hg : ∀ (s : Shared) (H : Hp) (C : Addr) (cl : List (Str × Addr)) (fp : List Addr), EvG (X.blk s H scope (compEnvC scope cl C X.env) fp) tg is g)
    (ht : ∀ (s : Shared) (H : Hp) (C : Addr) (cl : List (Str × Addr)) (fp : List Addr), EvI (X.blk s H scope (compEnvC scope cl C X.env) fp) ifs t)
    (he : ∀ (s : Shared) (H : Hp) (C : Addr) (cl : List (Str × Addr)) (fp : List Addr), EvR (X.blk s H scope (compEnvC scope cl C X.env) fp) elt we)
    (hgl : Gl X y := by rfl) (hsub : ∀ i ∈ is, i ∈ own.map (·.2) := by decide) (hdb : (y == ("__debug__" : Str)) = false := by decide)
    (hs : ∀ x, foldedSetIterable (.Name y p) X.env x = pure x := by intro _; rfl) :
    EvC X elt tg (.Name y p) ifs scope (fun sd Q => (okVs sd (own.map (·.2)) = true ∧ tab.length ≤ sizeLine) ∧ lcW g t we (wipeD sd (own.map (·.2))) ((tab.map (·.1)).map .str) fun out => Q (.fr out)) where
  ex := by
    obtain ⟨d, es, n, hm, hl, hk0, lo, hks, _⟩ := T.ex
    exact ⟨own, _, _, _, _, pi_kd hgl hm hl lo hks hdb, ok, fun s H C cl fp => (hg s H C cl fp).pg, fun s H C cl fp => (ht s H C cl fp).pt, fun s H C cl fp => (he s H C cl fp).pe, hs,
      fun σ H Q ⟨c, sd, os, hk, r, q⟩ => by
      have hg' := (hg X.s_0 X.H_0 0 [] []).mo
      have ht' := (ht X.s_0 X.H_0 0 [] []).mo
      have he' := (he X.s_0 X.H_0 0 [] []).mo
      obtain ⟨⟨k1, k2⟩, k3⟩ := q
      exact fun D hD => lc_new hg' ht' he' hk r hD (okVs_all k1) hsub (fun H2 x2 => it_ks _) (by rw [List.length_map, List.length_map]; exact k2) k3⟩
  mo := fun sd Q Q' k q => ⟨q.1, lcW_mo (hg X.s_0 X.H_0 0 [] []).mo (ht X.s_0 X.H_0 0 [] []).mo (he X.s_0 X.H_0 0 [] []).mo _ _ _ _ (fun r y => k _ y) q.2⟩
/-- what stands at a key of a dict of the module -/
def wKix (tab : List (Str × PyData)) (wi : WD) : WR := fun sd Q => wi sd fun d => match d with
  | .str z => ∃ dv, (z, dv) ∈ tab ∧ Q (.va dv)
  | _ => False
theorem evr_kix {wi : WD} (T : KTab X.K X.w X.mg y tab) (h : Ev .sh X b wi) (hs : PlainIx b := by exact fun _ _ => rfl) (hgl : Gl X y := by rfl) (hdb : (y == ("__debug__" : Str)) = false := by decide) : EvR X (.Subscript (.Name y p) b pos) (wKix tab wi) where
  pe := by
    obtain ⟨d, es, n, hm, hl, hk0, lo, hks, hv⟩ := T.ex
    refine PE.weak (pe_ix ix_kdict (pe_glob (v := .ref d) hgl hm rfl hdb) h.pe hs) fun σ H Q ⟨c, sd, os, hk, r, q⟩ => ⟨c, sd, os, hk, r, h.mo _ _ _ (fun k kz v H1 x1 dm => ?_) q⟩
    cases k with
    | str z =>
      obtain ⟨dv, mz, qz⟩ := kz
      obtain ⟨u, v0, e1, e2, e3⟩ := hv _ mz
      obtain rfl := shStr dm
      exact ⟨d, z, v0, rfl, rfl, ⟨es, n, u, hl, hk0, e1, e2⟩, qz v0 H1 x1 (e3 _)⟩
    | _ => exact kz.elim
  mo := fun sd Q Q' k q => h.mo _ _ _ (fun d z => by
    cases d with
    | str x => exact ⟨z.choose, z.choose_spec.1, k _ z.choose_spec.2⟩
    | _ => exact z.elim) q
/-- for (k, x) in enumerate(a list) -/
theorem evs_forE {we : WD} (h : Ev .cl X a we) (hg : EvG X (.Tuple elts kk tpos) is g) (hb : EvB X body wb) (hc : X.calm = true) (hm : X.mg "enumerate" = none) (hgl : Gl X "enumerate" := by rfl) (hp : PassesOwn (model X.prog X.w) X.A X.env X.xe := by exact PassesOwn.never)
    (h1 : starEach [a] X.env = (false, eval a X.env) :: starEach [] X.env := by rfl) (h2 : starEach [a] X.env = [(false, eval a X.env)] := by rfl)
    (hs : ∀ x, foldedSetIterable (.Call (.Name "enumerate" p) [a] [] pos) X.env x = pure x := by intro _; rfl) {pos2 : Pos} :
    EvS X (.For (.Tuple elts kk tpos) (.Call (.Name "enumerate" p) [a] [] pos) body [] pos2) (fun E sd => we sd fun d => dEnum d fun ds => forW g wb E ds sd) where
  ps := PS.weak (ps_for hp hc (pi_enum hgl hm (pa_cons h.pe pa_nil h1) h2) hg.pg hb.ps hs) fun D σ H ⟨c, sd, os, E, hk, r, er, q⟩ =>
    ⟨c, sd, os, hk, r, h.mo _ _ _ (fun d k v H1 x1 dm => by
      have r1 := r.grow x1
      have dm : Dx X.K (hid (OO c os) H1) v d := dm
      cases d with
      | list ds =>
        cases dm with
        | @lst ax us _ g1 g2 =>
          refine ⟨ax, us, rfl, .inl (.inl (hid_some g1).2), for_new hg hb [(V.ref ax, PyData.list ds)] hk r1 er (fun p m => ?_) (fun O H2 ok => ?_) k⟩
          · rw [hk]
            rw [List.mem_singleton.mp m]
            exact .lst g1 g2
          · have o1 := ok _ List.mem_cons_self
            rw [hk] at o1 ⊢
            cases o1 with
            | lst p1 p2 => exact it_e (.inl (.inl (hid_some p1).2)) p2
      | _ => exact k.elim) q⟩
  mo := fun E E' sd h1 h2 _ _ q => h.mo _ _ _ (fun z y => dEnum_mo (fun ds y => forW_mo hg hb h1 h2 ds _ y) y) q
end
end DL

set_option Elab.async false
set_option linter.all false
set_option maxRecDepth 100000
set_option maxHeartbeats 4000000
/-! a text is no dict; x in a tuple of texts, x anything; {k: v}; a list's place written; upper -/
namespace PySem.SeqAt
open PySem PyProof.Rows
open MeetsSeq
theorem str_eq_declines_dict (b : Str) (u : Tok) (l : Addr) (es : Array DictEntry) (n : Nat) (dd : Option Addr) (sl : Array (Option Value)) :
    Meets (Builtin.«str.__eq__» ⟨[.str b u, .ref l], []⟩) (fun _ R s => s.heap.get? l = some { cls := .type "dict", dict := dd, data := .dict es n, slots := sl } ∧ R (.ok (.ret .notImplemented)) s) :=
  .of_wp fun prog w A R s h => by obtain ⟨hp, g, d, tk, os⟩ := s; obtain ⟨hl, h⟩ := h; wp_walk using wpAny_load hl; exact ⟨_, rfl, h⟩
section
variable {A : Around} {s : Shared}
theorem RcAt.str_dict {l : Addr} {o : Obj} {es : Array DictEntry} {n : Nat} (b : Str) (u : Tok) (ho : s.heap.get? l = some o) (hx : o.cls = .type "dict") (hd : o.data = .dict es n) (hu : A.units < cLine) : RcAt A s (.str b u) (.ref l) false := fun prog w E Q h => by
  obtain ⟨cls, dd, data, sl⟩ := o
  simp only at hx hd
  subst hx hd
  have ty : s.TypeIs (.ref l) "dict" := ⟨_, ho, rfl⟩
  refine rc_eq_decline_or (k := false) (typeIs_str s b u) ty (by decide) PySem.F.sub_dict_str F.slot_str_eq PySem.F.slot_dict_eq_refl
    (fun _ hq => call_meets F.slot_str_eq (typeIs_str s b u) F.entry_str_eq (F.args_str_eq_2 _ _) (str_eq_declines_dict b u l es n dd sl) ⟨ho, hq⟩)
    (fun Q' hq => wpAny_call_entry PySem.F.slot_dict_eq_refl ty PySem.F.entry_dict_eq ?_ (PySem.F.args_dict_eq_2 _ _))
    (fun _ hq => wpAny_of_eq (rfl : isSame (.str b u) (.ref l) = pure false) hq) (.inr hu) h
  show wpAny _ _ (Builtin.Dict.dictSlotArgs "__eq__" ⟨[.ref l, .str b u], []⟩ >>= _) _ _ s
  refine wpAny_bind ?_
  unfold Builtin.Dict.dictSlotArgs
  refine wpAny_bind (wpAny_notOrdered_dict ty ?_)
  show wpAny _ _ (pure (Value.ref l, Value.str b u)) _ _ s
  refine wpAny_pure ?_
  refine wpAny_bind (wpAny_isInstance (T := "str") (typeIs_str s b u) PySem.F.sub_str_dict ?_)
  simp only [Bool.not_false, if_true]
  refine wpAny_bind (wpAny_rule ?_)
  exact wpAny_pure ⟨_, rfl, hq⟩
theorem EqAt.str_dict {l : Addr} {o : Obj} {es : Array DictEntry} {n : Nat} (b : Str) (u : Tok) (ho : s.heap.get? l = some o) (hx : o.cls = .type "dict") (hd : o.data = .dict es n) (hu : A.units < cLine) : EqAt A s (.str b u) (.ref l) false := fun prog w E Q h => by
  unfold eqBool
  refine wpAny_holding ?_
  refine wpAny_ite_split (fun hab => absurd (eq_of_beq hab) nofun) (fun _ => ?_)
  exact wpAny_bind (RcAt.str_dict b u ho hx hd hu prog w E _ (wpAny_truthy_bool h))
end
end PySem.SeqAt
namespace DL
open PySem PySem.Spec PyProof.Rows L2
variable [Tb]
/-! ### x in a tuple of texts, x anything -/
theorem eq_str_any {X : Cx} {pins : List (Addr × Obj)} {σ : L2.St} {H : Hp} {s : Shared} {A : Around} (I : Inv X pins σ H s) {v : V} {u : Value} {d : PyData} (h : Dx X.K H v d) (r : RelV v u) (b : Str) (t : Tok) (hu : A.units < cLine) :
    SeqAt.EqAt A s (.str b t) u (PyData.eqv (.str b) d) := by
  cases h with
  | non => cases r; simp only [PyData.eqv]; exact SeqAt.EqAt.str_none b t
  | bl c => cases r; simp only [PyData.eqv]; exact SeqAt.EqAt.str_bool b t c
  | int i =>
    obtain ⟨t', rfl⟩ := r
    simp only [PyData.eqv]
    exact SeqAt.EqAt.str_int b t i t'
  | str y =>
    obtain ⟨t', rfl⟩ := r
    simp only [PyData.eqv]
    exact SeqAt.EqAt.str_str b t y t'
  | @lst a xs ds ea h2 =>
    cases (show u = Value.ref a from r)
    obtain ⟨_, its, n, _, e⟩ := (show ObjOk X.prog X.w H s.heap a (.lst xs) from I.hok a _ ea)
    simp only [PyData.eqv]
    exact SeqAt.EqAt.str_list b t ⟨_, e, rfl, n, rfl⟩ hu
  | @tup a xs ds h1 h2 =>
    cases (show u = Value.ref a from r)
    obtain ⟨its, o, n, _, e, hc, hd⟩ := L2.sqT_at I.hok I.kIn h1
    simp only [PyData.eqv]
    exact SeqAt.EqAt.str_tuple b t ⟨o, e, hc, n, hd⟩ hu
  | @dct a o vs es h1 h2 h3 =>
    cases (show u = Value.ref a from r)
    obtain ⟨kvs, rfl, _⟩ := h2
    obtain ⟨_, _, vs, _, ob, es', ep, e1, e2, e3, _⟩ := (show ObjOk X.prog X.w H s.heap a (.dK kvs) from I.hok a _ h1)
    simp only [PyData.eqv]
    exact SeqAt.EqAt.str_dict b t e1 e2.1 e3 hu
def eqF (d : PyData) (y : Value) : Bool := match y with
  | .str z _ => PyData.eqv (.str z) d
  | _ => false
theorem any_eqF (d : PyData) : ∀ {zs : List Str} {its : List Value}, Vals (zs.map V.str) its → its.any (eqF d) = (zs.map PyData.str).any (fun y => y.eqv d)
  | [], _, h => by cases h; rfl
  | z :: zs, _, h => by
    cases h with
    | cons r t =>
      obtain ⟨tk, rfl⟩ := r
      rw [List.any_cons, List.map_cons, List.any_cons, any_eqF d t]
      rfl
theorem vals_str : ∀ {zs : List Str} {its : List Value}, Vals (zs.map V.str) its → ∀ y ∈ its, ∃ z t, y = .str z t
  | [], _, h, y, m => by cases h; cases m
  | z :: zs, _, h, y, m => by
    cases h with
    | cons r t =>
      obtain ⟨tk, rfl⟩ := r
      rcases List.mem_cons.mp m with rfl | m
      · exact ⟨_, _, rfl⟩
      · exact vals_str t y m
section
variable {X : Cx}
def rInT (K : PySem.W.Frag) (neg : Bool) : R2 := fun x y H Q => ∃ (d : PyData) (zs : List Str) (p : Addr), Dx K H x d ∧ y = .ref p ∧ SqT K H p (zs.map V.str) ∧ Q (.bl (if neg then !((zs.map PyData.str).any fun y => y.eqv d) else (zs.map PyData.str).any fun y => y.eqv d)) H
theorem op_inT (hu : X.A.units + 65 < cLine) : OpR X (compareOp .In) (rInT X.K false) := by
  rintro pins s σ H x y v u Q I rx ry ⟨d, zs, p, hd, rfl, ht, q⟩
  cases ry
  obtain ⟨its, o, n, rv, e, hc, hdt⟩ := L2.sqT_at I.hok I.kIn ht
  refine SeqAt.in_tupleAt (eqF d) ⟨o, e, hc, n, hdt⟩ (fun y hy => ?_) ?_
  · obtain ⟨z, t, rfl⟩ := vals_str rv y (by simpa using hy)
    exact eq_str_any I hd rx z t (by show X.A.units + 1 < cLine; omega)
  · rw [← Array.any_toList, any_eqF d rv]
    exact ⟨.bl _, H, I, rfl, q⟩
theorem op_notInT (hu : X.A.units + 65 < cLine) : OpR X (compareOp .NotIn) (rInT X.K true) := by
  rintro pins s σ H x y v u Q I rx ry ⟨d, zs, p, hd, rfl, ht, q⟩
  cases ry
  obtain ⟨its, o, n, rv, e, hc, hdt⟩ := L2.sqT_at I.hok I.kIn ht
  refine SeqAt.notIn_tupleAt (eqF d) ⟨o, e, hc, n, hdt⟩ (fun y hy => ?_) ?_
  · obtain ⟨z, t, rfl⟩ := vals_str rv y (by simpa using hy)
    exact eq_str_any I hd rx z t (by show X.A.units + 1 < cLine; omega)
  · rw [← Array.any_toList, any_eqF d rv]
    exact ⟨.bl _, H, I, rfl, q⟩
def rdInT (neg : Bool) : RD2 := fun d e Q => match e with
  | .tuple ys => ys.all isStrD = true ∧ Q (.va (.bool (if neg then !(ys.any fun y => y.eqv d) else ys.any fun y => y.eqv d)))
  | _ => False
theorem rdInT_mo {neg : Bool} : Mo2 (rdInT neg) := fun d e Q Q' k q => by
  unfold rdInT at q ⊢
  split at q
  · exact ⟨q.1, k _ q.2⟩
  · exact q.elim
theorem strs_of : ∀ {ys : List PyData}, ys.all isStrD = true → ∃ zs : List Str, ys = zs.map .str
  | [], _ => ⟨[], rfl⟩
  | y :: ys, h => by
    rw [List.all_cons, Bool.and_eq_true] at h
    obtain ⟨zs, rfl⟩ := strs_of h.2
    cases y with
    | str z => exact ⟨z :: zs, rfl⟩
    | _ => exact absurd h.1 (by simp [isStrD])
theorem dx_of_strs {K : PySem.W.Frag} {H : Hp} : ∀ {xs : List V} {zs : List Str}, DxAll K H xs (zs.map .str) → xs = zs.map V.str
  | _, [], h => by cases h; rfl
  | _, z :: zs, h => by
    cases h with
    | cons h t => cases h; rw [dx_of_strs t]; rfl
theorem br_inT {K : PySem.W.Frag} {neg : Bool} : Br2 K .cl .sh (rInT K neg) (rdInT neg) := by
  intro S O H x y d e Q hs hO hx hy q
  unfold rdInT at q
  split at q
  · rename_i ys
    obtain ⟨zs, rfl⟩ := strs_of q.1
    obtain ⟨p, xs, rfl, h1, h2⟩ := shTup hy
    obtain rfl := dx_of_strs h2
    exact ⟨d, zs, p, Dx.same hid_sub d x hx, rfl, SqT.same hid_sub h1, q.2 _ H (Same.refl H) (.bl _)⟩
  · exact q.elim
theorem od_inT (hu : X.A.units + 65 < cLine) : OpD X (compareOp .In) .cl .sh (rdInT false) := ⟨⟨_, op_inT hu, br_inT⟩, rdInT_mo⟩
theorem od_notInT (hu : X.A.units + 65 < cLine) : OpD X (compareOp .NotIn) .cl .sh (rdInT true) := ⟨⟨_, op_notInT hu, br_inT⟩, rdInT_mo⟩
end
/-! ### xs[k] = v, of a list of one's own -/
theorem DxAll.set {K : PySem.W.Frag} {H : Hp} {v : V} {d : PyData} (hd : Dx K H v d) : ∀ {xs : List V} {ds : List PyData}, DxAll K H xs ds → ∀ j : Nat, DxAll K H (xs.set j v) (ds.set j d)
  | _, _, .nil, _ => .nil
  | _, _, .cons h t, 0 => .cons hd t
  | _, _, .cons h t, j + 1 => .cons h (DxAll.set hd t j)
def wLPut (i : Nat) (wk : WD) (wv : WR) : WS := fun E sd => wv sd fun z => onOw i sd fun ds => wk sd fun k => match k with
  | .int n => (0 ≤ n ∧ n < (ds.length : Int)) ∧ E.nx (sd.set i (.ow (ds.set n.toNat z.dat)))
  | _ => False
section
variable {X : Cx} {kx vx : Expr} {x : Str} {pos p : Pos}
theorem evs_lput {wk : WD} {wv : WR} {pos' : Pos} (i : Nat) (hkx : Ev .sh X kx wk) (hvx : EvR X vx wv) (hN : X.N[i]? = some x := by rfl)
    (hv : Vis X.env.scope x := by first | exact Or.inl rfl | exact Or.inr (Or.inl rfl) | exact Or.inr (Or.inr rfl))
    (hd : (x == ("__debug__" : Str)) = false := by decide) (hcd : (x == ("__classdict__" : Str)) = false := by decide)
    (ha : ∀ v, assign (.Subscript (.Name x p) kx pos') X.env v = (do
      let ov ← holding [v] (eval (.Name x p) X.env)
      let iv ← holding [v, ov] (eval kx X.env)
      standAt pos'
      holding [v, ov, iv] (setItem ov iv v)
      release [v, ov, iv] []) := by intro _; rfl)
    (hs : swapsWithSole [.Subscript (.Name x p) kx pos'] vx pos.line X.env = pure false := by rfl) (hw : swappedStores [.Subscript (.Name x p) kx pos'] vx X.env = pure none := by rfl) :
    EvS X (.Assign [.Subscript (.Name x p) kx pos'] vx pos) (wLPut i wk wv) where
  ps := PS.weak (ps_asg hvx.pe (pg_sub (pe_var hN hv hd hcd) hkx.pe set_list ha) hs hw) fun D σ H ⟨c, sd, os, E, hk, r, er, q⟩ => by
    refine ⟨c, sd, os, hk, r, hvx.mo _ _ _ (fun z kz y H1 x1 rv => ?_) q⟩
    obtain ⟨ds, es, kz⟩ := onOw_get kz
    have r1 := r.grow x1
    have dz := RvR.cl rv fun b m => r.there m
    obtain ⟨v, oa, h1, h2, a, xs, rfl, rfl, h3, h4, h5⟩ := r1.at_ es (by intro z; cases z)
    have na := own_notS r1 (List.mem_of_getElem? h2)
    refine ⟨_, h1, c, sd, os, hk, r1, hkx.mo _ _ _ (fun k kk u H3 x3 dk => ?_) kz⟩
    cases k with
    | int n =>
      obtain rfl := shInt dk
      obtain ⟨⟨n0, n1⟩, kk⟩ := kk
      have g3 := x3.st a _ na h3
      have g4 := DxAll.grow r1.sO x3 h4
      have dz3 : Dx c.K (hid (OO c os) H3) y z.dat := by rw [hk]; exact Dx.grow r1.sO x3 dz
      refine ⟨a, xs, n, n.toNat, rfl, rfl, g3, ?_, er.nx _ _ _ _ (R.upd (r1.grow x3) h2 (DxAll.set dz3 g4 n.toNat)) kk⟩
      rw [h4.len]
      obtain ⟨j, rfl⟩ := Int.eq_ofNat_of_zero_le n0
      rw [Int.toNat_natCast]
      unfold ixN
      rw [if_pos (by omega), if_pos (by omega), Int.toNat_natCast]
    | _ => exact kk.elim
  mo := fun E E' sd h1 _ _ _ q => hvx.mo _ _ _ (fun z y => by
    obtain ⟨ds, es, y⟩ := onOw_get y
    exact onOw_put es (hkx.mo _ _ _ (fun k y => by
      cases k with
      | int n => exact ⟨y.1, h1 _ y.2⟩
      | _ => exact y.elim) y)) q
/-! ### upper -/
def wUpper (w : WD) : WR := fun sd Q => w sd fun d => match d with
  | .str z => z.length ≤ 5592405 ∧ Q (.va (.str (Txt.upper z)))
  | _ => False
theorem evr_upper {o : Expr} {w : WD} {apos cpos : Pos} (h : Ev .sh X o w) (hbase : attributeBase o "upper" X.env (eval o X.env) = eval o X.env := by rfl) (hline : (apos.endLine == cpos.line) = true := by rfl) : EvR X (.Call (.Attribute o "upper" apos) [] [] cpos) (wUpper w) where
  pe := PE.weak (pe_upper h.pe hbase hline) fun σ H Q ⟨c, sd, os, hk, r, q⟩ => ⟨c, sd, os, hk, r, h.mo _ _ _ (fun d kd v H1 x1 dm => by
    cases d with
    | str z => exact ⟨⟨z, shStr dm⟩, z, shStr dm, rfl, kd.1, kd.2 _ H1 x1 (.str _)⟩
    | _ => exact kd.elim) q⟩
  mo := fun sd Q Q' k q => h.mo _ _ _ (fun d z => by
    cases d with
    | str x => exact ⟨z.1, k _ z.2⟩
    | _ => exact z.elim) q
/-! ### {'a': 1} -/
theorem evr_disp1 {k : Str} {n : Int} {k1 k2 : Nat} {p1 p2 : Pos} : EvR X (.Dict [some (.Constant (.str k) k1 p1)] [.Constant (.int n) k2 p2] pos) (fun _ Q => Q (.fd [(.str k, .int n)])) where
  pe := PE.weak (pe_disp (pps_cons pe_str pe_int pps_nil) rfl rfl (by simp) (by show 1 ≤ 15; decide)) fun σ H Q ⟨c, sd, os, hk, r, q⟩ p hp => by
    refine ⟨upd_same, [(Sum.inr k, .int n)], rfl, by show 1 ≤ 15; decide, ?_⟩
    rw [upd_upd]
    exact q _ _ (Ext.of (same_new hp)) ⟨p, .dK [(Sum.inr k, .int n)], rfl, hp, upd_same, KR.de (kvs := [(Sum.inr k, .int n)]) (es := [(.str k, .int n)]) ⟨⟨rfl, .int n⟩, trivial⟩⟩
  mo := fun sd Q Q' k q => k _ q
/-! ### a text, twice -/
def twice (x : Str) : Str := ⟨(List.replicate 2 x.cps).foldl (· ++ ·) #[]⟩
def rTwice : R2 := fun x y H Q => ∃ z : Str, x = .str z ∧ y = .int 2 ∧ (1 ≤ z.length ∧ z.length ≤ 1000) ∧ Q (.str (twice z)) H
theorem op_twice : OpR X (binaryOp .Mult) rTwice := by
  rintro pins s σ H x y v u Q I rx ry ⟨z, rfl, rfl, ⟨l1, l2⟩, q⟩
  obtain ⟨t, rfl⟩ := rx
  obtain ⟨t', rfl⟩ := ry
  have hz : (z.length == 0) = false := by simpa using (by omega : z.length ≠ 0)
  have e : ((2 : Int) == 1 || z.length == 0) = false := by rw [hz]; rfl
  refine PySem.P.mul_str (by decide) (fun _ _ => ?_) (fun _ _ => ?_) ?_
  · have : ((2 : Int) ^ 63 - 1) / 2 = 4611686018427387903 := by decide
    omega
  · exact decide_eq_false (by rw [sizeLine_eq]; show ¬ z.length * 2 > _; omega)
  · rw [if_neg (by decide), e, if_neg Bool.false_ne_true]
    have lt : (twice z).length ≤ sizeLine := by
      unfold twice
      show ((#[] ++ z.cps) ++ z.cps).size ≤ sizeLine
      simp only [Array.size_append, Array.size_empty]
      rw [sizeLine_eq]
      show 0 + z.length + z.length ≤ _
      omega
    exact ⟨lt, .str (twice z), H, I.tok _, ⟨_, rfl⟩, q⟩
def rdTwice : RD2 := fun d e Q => match d, e with
  | .str z, .int n => (n = 2 ∧ 1 ≤ z.length ∧ z.length ≤ 1000) ∧ Q (.va (.str (twice z)))
  | _, _ => False
theorem od_twice : OpD X (binaryOp .Mult) .sh .sh rdTwice where
  ex := ⟨_, op_twice, fun S O H x y d e Q hs hO hx hy q => by
    unfold rdTwice at q
    split at q
    · obtain ⟨⟨rfl, q1⟩, q2⟩ := q
      exact ⟨_, shStr hx, shInt hy, q1, q2 _ H (Same.refl H) (.str _)⟩
    · exact q.elim⟩
  mo := by
    intro d e Q Q' k q
    unfold rdTwice at q ⊢
    split at q
    · exact ⟨q.1, k _ q.2⟩
    · exact q.elim
/-! ### list(a list, a tuple or a text) -/
def dListA (d : PyData) (Q : RV → Prop) : Prop := match d with
  | .str z => z.length ≤ sizeLine ∧ Q (.fr (signD z))
  | .list xs => Q (.fr xs)
  | .tuple xs => Q (.fr xs)
  | _ => False
theorem dListA_or {d : PyData} {Q : RV → Prop} (q : dListA d Q) : dList d Q ∨ dListS d Q := by
  cases d with
  | str z => exact .inr q
  | list xs => exact .inl q
  | tuple xs => exact .inl q
  | _ => exact q.elim
theorem cd_listA (hc : X.calm = true) : CallD X (.type "list") .sh (rd1 dListA) where
  ex := by
    obtain ⟨r1, c1, b1⟩ := (cd_list (X := X)).ex
    obtain ⟨r2, c2, b2⟩ := (cd_listS hc).ex
    refine ⟨fun vs H Q => r1 vs H Q ∨ r2 vs H Q, fun pins s σ H xs us Q I r h => h.elim (c1 pins s σ H xs us Q I r) (c2 pins s σ H xs us Q I r), ?_⟩
    refine rd1_br fun S O H x d Q hs hO hd q => ?_
    rcases dListA_or q with q | q
    · exact .inl (b1 S O H [x] [d] Q hs hO (.cons hd .nil) q)
    · exact .inr (b2 S O H [x] [d] Q hs hO (.cons hd .nil) q)
  mo := rd1_mo fun d Q Q' k q => by
    unfold dListA at q ⊢
    split at q <;> first | exact ⟨q.1, k _ q.2⟩ | exact k _ q | exact q.elim
end
end DL

set_option Elab.async false
set_option linter.all false
set_option maxRecDepth 100000
set_option maxHeartbeats 4000000
/-! all of a generator expression over zip of two tuples -/
namespace DL
open PySem PySem.Spec PyProof.Rows L2 RZ
variable [Tb]
/-- the test of two things: quiet -/
def EltZ (X : Cx) (scope : Scope) (x x2 : Str) (elt : Expr) (ok : PyData → Prop) (pb : PyData → PyData → Bool) : Prop :=
  ∀ (B : Kept) (env : Env) (m : Str → Option Value) (d d2 : PyData) (u u2 : Value), L2.Mod X.K X.mg X.base → (∀ b o, X.base.get? b = some o → B b o) → QEnv env → env.scope = scope → m x = some u → m x2 = some u2 → Knd B u d → Knd B u2 d2 → ok d → ok d2 → Qe X.prog X.w B (X.A.depth + 1) env m elt (· = .bool (pb d d2))
def trZ (pb : PyData → PyData → Bool) (ds : List (PyData × PyData)) (i : Nat) : Bool := match ds[i]? with
  | some d => pb d.1 d.2
  | none => false
theorem all_trZ (pb : PyData → PyData → Bool) (ds : List (PyData × PyData)) : (List.range ds.length).all (trZ pb ds) = ds.all fun d => pb d.1 d.2 := by
  rw [Bool.eq_iff_iff, List.all_eq_true, List.all_eq_true]
  constructor
  · intro h d m
    obtain ⟨i, hi, rfl⟩ := List.getElem_of_mem m
    have := h i (List.mem_range.mpr hi)
    unfold trZ at this
    rw [List.getElem?_eq_getElem hi] at this
    exact this
  · intro h i hi
    have hi := List.mem_range.mp hi
    unfold trZ
    rw [List.getElem?_eq_getElem hi]
    exact h _ (List.getElem_mem hi)
theorem sep_nat {n a b : Nat} (ha : a < n) (hb : b < n) : ZipSep2 (n + 4) (n + 2) (n + 3) n (n + 1) [n, a] [n + 1, b] where
  TIz := fun e => by simp at e
  TOz := fun e => by simp at e
  TITO := fun e => by simp at e
  TIi1 := fun e => by simp at e
  mem1 := List.mem_cons_self
  zf1 := fun m => by
    rcases List.mem_cons.mp m with e | m
    · simp at e
    · have z : @Eq Nat _ _ := List.mem_singleton.mp m
      omega
  Tf1 := fun m => by
    rcases List.mem_cons.mp m with e | m
    · simp at e
    · have z : @Eq Nat _ _ := List.mem_singleton.mp m
      omega
  TIi2 := fun e => by simp at e
  mem2 := List.mem_cons_self
  zf2 := fun m => by
    rcases List.mem_cons.mp m with e | m
    · simp at e
    · have z : @Eq Nat _ _ := List.mem_singleton.mp m
      omega
  Tf2 := fun m => by
    rcases List.mem_cons.mp m with e | m
    · simp at e
    · have z : @Eq Nat _ _ := List.mem_singleton.mp m
      omega
  sep1_2 := fun m => by
    rcases List.mem_cons.mp m with e | m
    · simp at e
    · have z : @Eq Nat _ _ := List.mem_singleton.mp m
      omega
  sep2_1 := fun m => by
    rcases List.mem_cons.mp m with e | m
    · simp at e
    · have z : @Eq Nat _ _ := List.mem_singleton.mp m
      omega
theorem mem7 {c n a b : Nat} (m : c ∈ (n + 4) :: (n + 2) :: (n + 3) :: ([n, a] ++ [n + 1, b])) (ha : a < n) (hb : b < n) : c < n + 5 := by
  simp at m
  omega
theorem mem4 {c n : Nat} (m : c ∈ [n + 4, n + 3, n, n + 1]) (h : c < n) : False := by
  simp at m
  omega
theorem mem5 {c n k : Nat} (m : c ∈ k :: [n + 4, n + 3, n, n + 1]) (h : c < n) (b : n + 5 ≤ k) : False := by
  simp at m
  omega
def RdyZ (X : Cx) (pins : List (Addr × Obj)) (σ : L2.St) (H1 : Hp) (P : Addr) (ds : List (PyData × PyData)) (pb : PyData → PyData → Bool) (g : Addr) (s5 : Shared) : Prop :=
  ∃ (fp wr : List Addr) (G : Array GenState → Array GenState → Prop) (F : Nat → Value → Prop) (St : Nat → Shared → Prop),
    WalksS X.prog X.w X.A.in1 g fp wr G ds.length F St ∧ St 0 s5 ∧ TruthOf X.prog X.w X.A.in1 F (trZ pb ds) ∧ ∀ s', Moved wr G s5 s' → ∃ H2, GxR.Tabbed P H1 H2 ∧ Inv X pins σ H2 s'
section
variable {X : Cx} {pins : List (Addr × Obj)} {σ : L2.St} {H : Hp} {s : Shared}
theorem gen_zip {c P : Addr} {elt ea eb : Expr} {x x2 : Str} {px px2 pt gpos p pos2 : Pos} {kt : Nat} {scope : Scope} {ok : PyData → Prop} {pb : PyData → PyData → Bool} {ta : TA} {k : Nat} {Q' : Value → Shared → Prop} {R : List (PyData × PyData) → Hp → Prop}
    (hr : Room k X.A) (TB : GxR.TabB X.base X.mg c P) (hcode : X.env.code = .ref c) (S : GxR.GenS X.env scope x) (S2 : GxR.GenS X.env scope x2) (hab : x ≠ x2) (hgl : Gl X "zip") (hmz : X.mg "zip" = none) (ha : PA X [ea, eb] ta) (hel : EltZ X scope x x2 elt ok pb)
    (hs : ∀ v, genFold (.Call (.Name "zip" p) [ea, eb] [] pos2) X.env v = pure v)
    (hsE : starEach [ea, eb] X.env = (false, eval ea X.env) :: starEach [eb] X.env) (hpl : (backTo pos2 (starEach [eb] X.env)).any (·.1) = false) (I : Inv X pins σ H s)
    (h : ta σ H fun vs H1 => ∃ (a b : Addr) (xs ys : List V) (ds es : List PyData) (O : List Addr), vs = [.ref a, .ref b] ∧ SqT X.K H1 a xs ∧ SqT X.K H1 b ys ∧ DxAll X.K (hid O H1) xs ds ∧ DxAll X.K (hid O H1) ys es ∧ (∀ d ∈ ds, ok d) ∧ (∀ d ∈ es, ok d) ∧ GxR.TabG H1 P ∧ R (ds.zip es) H1)
    (hQ : ∀ ds H1 g s5, R ds H1 → RdyZ X pins σ H1 P ds pb g s5 → Q' (.ref g) s5) :
    wpAny (model X.prog X.w) X.A (eval (.GeneratorExp elt [⟨.Tuple [.Name x px, .Name x2 px2] kt pt, .Call (.Name "zip" p) [ea, eb] [] pos2, [], 0⟩] scope gpos) X.env) Q' X.xe s := by
  refine wpAny_GeneratorExp_walksQTD hr.hd S.co (closure_ok S.free) S.cell S.dot S.loc S2.loc hab S.kind (by have := hr.dp; omega) ?_ hs
  refine Call_ (ld_blt I hgl hmz PyProof.Rows.boot_zip (PyProof.Rows.callWith_type1 (thn (ha.run pos2 pins s σ H _ I h) fun us s1 ⟨vs, H1, I1, r1, q1⟩ => ?_) hsE hpl))
  obtain ⟨a, b, xs, ys, ds, es, O, ex, hT, hT2, hD, hD2, hok, hok2, ⟨ps, hP, ht⟩, q1⟩ := q1
  subst ex
  cases r1 with
  | cons r rr =>
  cases rr with
  | cons r' rr =>
  cases rr
  cases r
  cases r'
  obtain ⟨its, ot, nt, rv, eo, ec, ed⟩ := L2.sqT_at I1.hok I1.kIn hT
  obtain ⟨its2, ot2, nt2, rv2, eo2, ec2, ed2⟩ := L2.sqT_at I1.hok I1.kIn hT2
  have tup1 : s1.heap.IsTuple a its.toArray := ⟨ot, eo, ec, nt, ed⟩
  have tup2 : s1.heap.IsTuple b its2.toArray := ⟨ot2, eo2, ec2, nt2, ed2⟩
  have len : its.length = ds.length := by rw [← rv.length]; exact hD.len
  have len2 : its2.length = es.length := by rw [← rv2.length]; exact hD2.len
  refine call_zipT tup1 tup2 fun hZ hz hTI hTO hi1 hi2 hszZ up => wpAny_pyIter_zip hz ?_
  have atP : s1.heap.get? P = some { cls := .none, data := .fields ps } := I1.hok P _ hP
  have ltP : @LT.lt Nat instLTNat P s1.heap.objs.size := Heap.lt_size atP
  have lta : @LT.lt Nat instLTNat a s1.heap.objs.size := Heap.lt_size eo
  have ltb : @LT.lt Nat instLTNat b s1.heap.objs.size := Heap.lt_size eo2
  have neP : ∀ b o, s1.heap.get? b = some o → (o.cls = .type "list" ∨ o.cls = .type "tuple" ∨ o.cls = .type "dict") → b ≠ P := fun b o e hc z => by
    rw [z, atP] at e
    cases e
    rcases hc with z | z | z <;> cases z
  have atP2 := up _ _ atP
  have cd : PySem.W.CodeHd hZ c P := TB.code.keeps fun b u e => up b u (I1.bk b u e)
  have lim2 : hZ.NoLimit := I1.nolimit.keeps up
  have apartZ := PySem.W.ktu_apart s1.heap.objs.size a b lta ltb
  -- behind the making of the code object, whether it was there or not
  have go : ∀ (code : Value) (h3 : Heap) (tk : Nat) (ps' : Array Value), Heap.ExtBut P hZ h3 → hZ.objs.size ≤ h3.objs.size → h3.get? P = some { cls := .none, data := .fields ps' } → (∃ more, ps' = ps ++ more) → TriplesOk ps'.toList →
      wpAny (model X.prog X.w) X.A (builtinsFor X.env.globals X.env.builtins) (fun bi s₄ =>
        ∃ Ia fp wr n₀ Pf St₀ Mid pz F, Value.ref (s1.heap.objs.size + 4) = .ref Ia ∧ (∀ A' : Around, A'.handled = none → WalksU X.prog X.w A' Ia fp wr n₀ Pf St₀ Mid) ∧ (∀ i vals, Pf i vals → ∃ va vb, vals = #[va, vb]) ∧ St₀ 0 s₄.heap ∧ (∀ b ∈ fp, b < s₄.heap.objs.size) ∧ s₄.heap.NoLimit ∧ cStatics ∉ wr ∧
          (∀ href : Heap, (∀ b o, s₄.heap.get? b = some o → href.get? b = some o) →
            QuietGenTD X.prog X.w (genEnv scope (cloFrom X.env.cells scope.names []) s₄.heap.objs.size code bi X.env) x x2 [] elt (List.range s₄.heap.objs.size) wr Pf pz F href (X.A.depth + 1) (X.A.units + 8)) ∧
          (∀ a h₅ tk gs, gs.bare = true → s₄.heap.objs.size < a → h₅.objs.size = a + 1 → (∀ b o, s₄.heap.get? b = some o → h₅.get? b = some o) →
            WalksS X.prog X.w X.A.in4 a (a :: s₄.heap.objs.size :: List.range s₄.heap.objs.size) (s₄.heap.objs.size :: wr) (GenOnlyQ s₄.gens.size) (passing pz n₀ 0).length
              (fun j y => ∃ i, (passing pz n₀ 0)[j]? = some i ∧ F i y) (GenAt X.prog X.w X.A.in4 a s₄.gens.size s₄.heap.objs.size (List.range s₄.heap.objs.size) wr pz n₀ F) →
            GenAt X.prog X.w X.A.in4 a s₄.gens.size s₄.heap.objs.size (List.range s₄.heap.objs.size) wr pz n₀ F 0 { s₄ with gens := s₄.gens.push gs, toks := tk, heap := h₅ } →
            Q' (.ref a) { s₄ with gens := s₄.gens.push gs, toks := tk, heap := h₅ })) X.xe { s1 with heap := h3, toks := tk } := by
    rintro code h3 tk _ grown big atP3 ⟨more, rfl⟩ ht3
    obtain ⟨bm, ob, e1, e2, e3, e4, e5, e6, e7, e8⟩ := TB.bm
    have lts : @LT.lt Nat instLTNat cStatics s1.heap.objs.size := let ⟨_, hns, _⟩ := I1.nolimit; hns.lt
    have nesP : cStatics ≠ P := fun z => by
      obtain ⟨_, ⟨o', es, ep, ho, hd, _⟩, _⟩ := I1.nolimit
      rw [z, atP] at ho
      cases ho
      cases hd
    have keep : ∀ b u, b ≠ P → s1.heap.get? b = some u → h3.get? b = some u := fun b u n e => grown b u n (up b u e)
    have big1 : @LE.le Nat instLENat (s1.heap.objs.size + 5) h3.objs.size := by rw [← hszZ]; exact big
    have neN : ∀ j : Nat, s1.heap.objs.size + j ≠ P := fun j z => by omega
    have g3 : ∀ j o, hZ.get? (s1.heap.objs.size + j) = some o → h3.get? (s1.heap.objs.size + j) = some o := fun j o e => grown _ o (neN j) e
    have tup3 : h3.IsTuple a its.toArray := ⟨ot, keep _ _ (neP a ot eo (.inr (.inl ec))) eo, ec, nt, ed⟩
    have tup4 : h3.IsTuple b its2.toArray := ⟨ot2, keep _ _ (neP b ot2 eo2 (.inr (.inl ec2))) eo2, ec2, nt2, ed2⟩
    have sep : ZipSep2 (s1.heap.objs.size + 4) (s1.heap.objs.size + 2) (s1.heap.objs.size + 3) s1.heap.objs.size (s1.heap.objs.size + 1) [s1.heap.objs.size, a] [s1.heap.objs.size + 1, b] := sep_nat lta ltb
    have W : ∀ A' : Around, A'.handled = none → WalksU X.prog X.w A' (s1.heap.objs.size + 4) ((s1.heap.objs.size + 4) :: (s1.heap.objs.size + 2) :: (s1.heap.objs.size + 3) :: ([s1.heap.objs.size, a] ++ [s1.heap.objs.size + 1, b])) [s1.heap.objs.size + 4, s1.heap.objs.size + 3, s1.heap.objs.size, s1.heap.objs.size + 1] (min its.toArray.size its2.toArray.size)
        (fun i vals => ∃ x1 x2, its.toArray[i]? = some x1 ∧ its2.toArray[i]? = some x2 ∧ vals = #[x1, x2]) _ _ := fun A' hA => (WalksT.zipD2 (prog := X.prog) (w := X.w) (A := A') sep (Draws.tuple (A := A'.in1) hA _ a (Nat.ne_of_lt lta) its.toArray) (Draws.tuple (A := A'.in1) hA (s1.heap.objs.size + 1) b (Nat.ne_of_lt (Nat.lt_succ_of_lt ltb)) its2.toArray)).toU
    refine wpAny_builtinsFor (m := X.mg) (by rw [I1.ok.glob]; exact ((I1.mod.glob.keeps I1.bk).keeps up).extBut grown TB.gP) e1 e2 (keep _ _ e4 (I1.bk _ _ e5)) e6 e7 e8 ?_
    refine ⟨_, _, _, _, _, _, _, (fun _ => true), (fun i y => ∃ d, (ds.zip es)[i]? = some d ∧ y = .bool (pb d.1 d.2)), rfl, W, fun i vals ⟨x1, x2, _, _, e⟩ => ⟨x1, x2, e⟩, ⟨g3 4 _ hz, g3 2 _ hTI, ⟨_, _, g3 3 _ hTO⟩, ⟨hi1.at fun o e => grown _ o (Nat.ne_of_gt ltP) e, tup3⟩, ⟨hi2.at fun o e => g3 1 o e, tup4⟩⟩, fun c m => ?_, lim2.extBut grown nesP, fun m => ?_, fun href sub => ⟨?_, ?_⟩, ?_⟩
    · show @LT.lt Nat instLTNat c h3.objs.size
      exact Nat.lt_of_lt_of_le (mem7 m lta ltb) big1
    · exact mem4 m lts
    · intro A' E' i va vb s₂ m₂ _ _ _ _ _ _ _ _
      simp only [List.forIn_nil]
      exact wpAny_pure ⟨rfl, GxR.keeps_refl _⟩
    · intro A' E' i va vb s₂ m₂ _ dp _ hv _ hn hm hm2 hk
      obtain ⟨x1, x2, hv1, hv2, ev⟩ := hv
      obtain ⟨rfl, rfl⟩ : va = x1 ∧ vb = x2 := by simpa using ev
      have hv1 : its[i]? = some va := by simpa using hv1
      have hv2 : its2[i]? = some vb := by simpa using hv2
      have il : i < its.length := (List.getElem?_eq_some_iff.mp hv1).1
      have il2 : i < its2.length := (List.getElem?_eq_some_iff.mp hv2).1
      obtain ⟨y, hy⟩ : ∃ y, xs[i]? = some y := ⟨xs[i]'(by rw [rv.length]; exact il), List.getElem?_eq_getElem _⟩
      obtain ⟨y2, hy2⟩ : ∃ y, ys[i]? = some y := ⟨ys[i]'(by rw [rv2.length]; exact il2), List.getElem?_eq_getElem _⟩
      obtain ⟨u, hu, ru⟩ := rv.get hy
      obtain ⟨u2, hu2, ru2⟩ := rv2.get hy2
      rw [hv1] at hu
      cases hu
      rw [hv2] at hu2
      cases hu2
      obtain ⟨d, hd, dx⟩ := hD.get' hy
      obtain ⟨d2, hd2, dx2⟩ := hD2.get' hy2
      -- all that stood ahead of it but for the table and the iterator is kept
      let B : Kept := fun b o => b ≠ P ∧ s1.heap.get? b = some o
      have kb : KIn B s₂.heap := fun b o e => hk b (List.mem_range.mpr (by
          have l : @LT.lt Nat instLTNat b s1.heap.objs.size := Heap.lt_size e.2
          show @LT.lt Nat instLTNat b h3.objs.size
          omega)) (fun m => by
          exact mem4 m (Heap.lt_size e.2)) o (sub b o (keep b o e.1 e.2))
      have inB : ∀ b o, X.base.get? b = some o → B b o := fun b o e => ⟨fun z => (by
          have := (I1.bs b o e).2
          rw [z, hP] at this
          cases this), I1.bk b o e⟩
      have kd : Knd B va d := knd_of I1 ru (Dx.same hid_sub d y dx) fun b o e hc => ⟨neP b o e hc, e⟩
      have kd2 : Knd B vb d2 := knd_of I1 ru2 (Dx.same hid_sub d2 y2 dx2) fun b o e hc => ⟨neP b o e hc, e⟩
      have qv : QEnv (genEnv scope (cloFrom X.env.cells scope.names []) h3.objs.size code builtinsNs X.env) := ⟨S.kind, I1.ok.glob, rfl⟩
      exact wpAny_mono (hel B _ m₂ d d2 va vb I1.mod inB qv rfl hm hm2 kd kd2 (hok d (List.mem_of_getElem? hd)) (hok2 d2 (List.mem_of_getElem? hd2)) A' E' s₂ dp kb hn) (fun y s3 r => ⟨⟨(d, d2), by rw [List.getElem?_zip_eq_some]; exact ⟨hd, hd2⟩, r.1⟩, r.2⟩) fun _ _ e => e
    · intro g h5 tk5 gs bare ag sz5 k5 W5 at0
      simp only [GxR.passing_true, List.length_range] at W5
      have n5 : min its.toArray.size its2.toArray.size = (ds.zip es).length := by rw [List.size_toArray, List.size_toArray, len, len2, List.length_zip]
      rw [n5] at W5 at0
      refine hQ (ds.zip es) H1 g _ q1 ⟨_, _, _, _, _, W5.in4_1, at0, ?_, fun s' hm => ?_⟩
      · rintro j y sj Qj Ej ⟨i, hij, d, hd, rfl⟩ hQj
        obtain ⟨hj, ej⟩ := List.getElem?_eq_some_iff.mp hij
        rw [List.getElem_range] at ej
        subst ej
        refine wpAny_truthy_bool ?_
        have e : trZ pb (ds.zip es) j = pb d.1 d.2 := by unfold trZ; rw [hd]
        rw [← e]
        exact hQj
      · have apart : ∀ b u, s1.heap.get? b = some u → b ∉ h3.objs.size :: [s1.heap.objs.size + 4, s1.heap.objs.size + 3, s1.heap.objs.size, s1.heap.objs.size + 1] := fun b u e m => by
          exact mem5 m (Heap.lt_size e) big1
        have J := GxR.inv_tab (more := more) (h' := s'.heap) (g' := s'.gens) (d' := s'.drawn) (t' := s'.toks) I1 hP (fun b u n e => hm.heap b u (apart b u e) (k5 b u (keep b u n e)))
          (hm.heap P _ (apart P _ atP) (k5 P _ atP3)) (AllBare.movedS (I1.bare.push bare) hm)
        rw [GxR.sh_eta s1 s' hm.os] at J
        exact ⟨upd H1 P (.tbl (ps ++ more)), ⟨⟨ps ++ more, upd_same, ht3⟩, fun b n => upd_ne n⟩, J⟩
  refine ⟨lim2, ?_⟩
  cases hf : codeAmong gpos ps.toList with
  | some cv => exact wpAny_genexprCode_hit hcode (cd.code atP2 ht) hf (go cv _ s1.toks ps (Heap.ExtBut.refl _ _) (Nat.le_refl _) atP2 ⟨#[], by simp⟩ ht)
  | none =>
    refine wpAny_genexprCodeX hcode (cd.code atP2 ht) (cd.tab atP2) hf ?_
    intro c' h' tk hx hge hlt hco' _ htab' _
    obtain ⟨o1, vs, f1, tf, fl, tg, inF, tx, tt, op, _, _, _, _, _, _, _, _, _, htr, _⟩ := hco'
    exact go _ h' tk _ hx (Nat.le_trans hge (Nat.le_of_lt hlt)) htab'.2 ⟨_, rfl⟩ htr
def tAllZ (K : PySem.W.Frag) (P : Addr) (ok : PyData → Prop) (pb : PyData → PyData → Bool) (ta : TA) : TE := fun σ H Q => ta σ H fun vs H1 => ∃ (a b : Addr) (xs ys : List V) (ds es : List PyData) (O : List Addr), vs = [.ref a, .ref b] ∧ SqT K H1 a xs ∧ SqT K H1 b ys ∧ DxAll K (hid O H1) xs ds ∧ DxAll K (hid O H1) ys es ∧ (∀ d ∈ ds, ok d) ∧ (∀ d ∈ es, ok d) ∧ GxR.TabG H1 P ∧
  ∀ H2, GxR.Tabbed P H1 H2 → Q (.bl ((ds.zip es).all fun d => pb d.1 d.2)) H2
theorem pe_allZ {c P : Addr} {elt ea eb : Expr} {x x2 : Str} {px px2 pt p pos pos2 pz gpos : Pos} {kt : Nat} {scope : Scope} {ok : PyData → Prop} {pb : PyData → PyData → Bool} {ta : TA} {k : Nat}
    (hr : Room k X.A) (hg : Gl X "all") (hm : X.mg "all" = none) (hb : bootBuiltins "all" = some (.builtin "all")) (TB : GxR.TabB X.base X.mg c P) (hcode : X.env.code = .ref c) (S : GxR.GenS X.env scope x) (S2 : GxR.GenS X.env scope x2) (hab : x ≠ x2) (hgl : Gl X "zip") (hmz : X.mg "zip" = none) (ha : PA X [ea, eb] ta) (hel : EltZ X scope x x2 elt ok pb)
    (hs : ∀ v, genFold (.Call (.Name "zip" pz) [ea, eb] [] pos2) X.env v = pure v)
    (hsE : starEach [ea, eb] X.env = (false, eval ea X.env) :: starEach [eb] X.env) (hpl : (backTo pos2 (starEach [eb] X.env)).any (·.1) = false)
    (he : starEach [.GeneratorExp elt [⟨.Tuple [.Name x px, .Name x2 px2] kt pt, .Call (.Name "zip" pz) [ea, eb] [] pos2, [], 0⟩] scope gpos] X.env = (false, eval (.GeneratorExp elt [⟨.Tuple [.Name x px, .Name x2 px2] kt pt, .Call (.Name "zip" pz) [ea, eb] [] pos2, [], 0⟩] scope gpos) X.env) :: starEach [] X.env := by rfl) :
    PE X (.Call (.Name "all" p) [.GeneratorExp elt [⟨.Tuple [.Name x px, .Name x2 px2] kt pt, .Call (.Name "zip" pz) [ea, eb] [] pos2, [], 0⟩] scope gpos] [] pos) (tAllZ X.K P ok pb ta) := by
  constructor
  intro pins s σ H Q I h
  refine wpAny_Call_Name_kw (ld_blt I hg hm hb ?_)
  refine PyProof.Rows.callWith_builtin1 ?_ he (by rfl)
  rw [he]
  show wpAny _ _ (spliced ((false, eval (.GeneratorExp elt [⟨.Tuple [.Name x px, .Name x2 px2] kt pt, .Call (.Name "zip" pz) [ea, eb] [] pos2, [], 0⟩] scope gpos) X.env) :: backTo pos (starEach [] X.env))) _ _ s
  refine Calls.spliced_cons (gen_zip (R := fun zs H1 => ∀ H2, GxR.Tabbed P H1 H2 → Q (.bl (zs.all fun d => pb d.1 d.2)) H2) hr TB hcode S S2 hab hgl hmz ha hel hs hsE hpl I h ?_)
  rintro ds H1 g s5 hR ⟨fp, wr, G, F, St, W, hst, htr, hI⟩
  refine Calls.spliced_nil (call_all_walkS (W.self 0 _ _ _ hst ⟨g, fp, wr, G, _, F, St, _, rfl, W, hst, htr, fun s' hmv => ?_⟩))
  obtain ⟨H2, hT, J⟩ := hI s' hmv
  rw [all_trZ]
  exact ⟨.bl _, H2, J, rfl, hR H2 hT⟩
end
section
variable {X : Cx} {elt ea eb : Expr} {x x2 : Str} {px px2 pt p pos pos2 pz gpos : Pos} {kt : Nat} {scope : Scope} {ok : PyData → Prop} {pb : PyData → PyData → Bool} {fd : FuncData} {c P : Addr} {k : Nat} {wl : WL}
def dAllZ (ok : PyData → Prop) (f : List (PyData × PyData) → Bool) (vs : List PyData) (Q : RV → Prop) : Prop := match vs with
  | [.tuple ds, .tuple es] => ((∀ d ∈ ds, ok d) ∧ ∀ d ∈ es, ok d) ∧ Q (.va (.bool (f (ds.zip es))))
  | _ => False
theorem dAllZ_mo {ok : PyData → Prop} {f : List (PyData × PyData) → Bool} {vs : List PyData} {Q Q' : RV → Prop} (k : ∀ r, Q r → Q' r) (q : dAllZ ok f vs Q) : dAllZ ok f vs Q' := by
  unfold dAllZ at q ⊢
  split at q
  · exact ⟨q.1, k _ q.2⟩
  · exact q.elim
theorem evr_allZ (G : GenT X.mg X.base fd c P) (hcode : X.env.code = fd.code) (hr : RmG k X.A) (hm : X.mg "all" = none) (hb : bootBuiltins "all" = some (.builtin "all")) (hmz : X.mg "zip" = none) (hgo : genOk scope x = true) (hgo2 : genOk scope x2 = true) (hab : x ≠ x2) (h : EvL .cl X [ea, eb] wl) (hel : EltZ X scope x x2 elt ok pb)
    (hg : Gl X "all" := by rfl) (hgl : Gl X "zip" := by rfl) (hs : ∀ v, genFold (.Call (.Name "zip" pz) [ea, eb] [] pos2) X.env v = pure v := by intro _; rfl)
    (hsE : starEach [ea, eb] X.env = (false, eval ea X.env) :: starEach [eb] X.env := by rfl) (hpl : (backTo pos2 (starEach [eb] X.env)).any (·.1) = false := by rfl)
    (he : starEach [.GeneratorExp elt [⟨.Tuple [.Name x px, .Name x2 px2] kt pt, .Call (.Name "zip" pz) [ea, eb] [] pos2, [], 0⟩] scope gpos] X.env = (false, eval (.GeneratorExp elt [⟨.Tuple [.Name x px, .Name x2 px2] kt pt, .Call (.Name "zip" pz) [ea, eb] [] pos2, [], 0⟩] scope gpos) X.env) :: starEach [] X.env := by rfl) :
    EvR X (.Call (.Name "all" p) [.GeneratorExp elt [⟨.Tuple [.Name x px, .Name x2 px2] kt pt, .Call (.Name "zip" pz) [ea, eb] [] pos2, [], 0⟩] scope gpos] [] pos) (fun sd Q => wl sd fun vs => dAllZ ok (fun zs => zs.all fun d => pb d.1 d.2) vs Q) where
  pe := PE.weak (pe_allZ hr.rm hg hm hb G.tb (hcode.trans G.hc) (gens_of hgo) (gens_of hgo2) hab hgl hmz h.pa hel hs hsE hpl he) fun σ H Q ⟨c, sd, os, hk, r, q⟩ => by
    refine ⟨c, sd, os, hk, r, h.mo _ _ _ (fun ds kz vs H1 x1 dm => ?_) q⟩
    unfold dAllZ at kz
    split at kz
    · rename_i xs ys
      obtain ⟨⟨k1, k2⟩, k3⟩ := kz
      obtain ⟨y1, y2, rfl, dx, dy⟩ := DMs.two dm
      cases dx with
      | @tup ax us _ g1 g2 =>
        cases dy with
        | @tup ay ws _ g3 g4 =>
          have r1 := r.grow x1
          exact ⟨ax, ay, us, ws, xs, ys, OO c os, rfl, SqT.same hid_sub g1, SqT.same hid_sub g3, g2, g4, k1, k2, r1.srcNow.2 P G.mem, fun H2 ht => k3 _ H2 (x1.trans (ext_tab r1.srcNow G.mem ht)) (.bl _)⟩
    · exact kz.elim
  mo := fun sd Q Q' k q => h.mo _ _ _ (fun d z => dAllZ_mo (fun r y => k r y) z) q
/-- one < other, of whole numbers -/
def isI : PyData → Prop | .int _ => True | _ => False
def ltI : PyData → PyData → Bool
  | .int i, .int j => decide (i < j)
  | _, _ => false
theorem elt_lt {p1 p2 p3 : Pos} (hx : scope.names.lookup x = some .local) (hx2 : scope.names.lookup x2 = some .local) (hdx : (x == ("__debug__" : Str)) = false := by decide) (hdx2 : (x2 == ("__debug__" : Str)) = false := by decide) :
    EltZ X scope x x2 (.Compare (.Name x p1) [.Lt] [.Name x2 p2] p3) isI ltI := fun B env m d d2 u u2 M hB qv hsc hm hm2 kd kd2 hok hok2 A E s dp kb hns => by
  refine wpAny_Compare1 ?_ (by with_unfolding_all rfl)
  refine wpAny_mono (qe_loc qv (by show env.scope.names.lookup x = _; rw [hsc]; exact hx) hm hdx A E s dp kb hns) (fun o1 s1 r => ?_) fun _ _ z => z
  obtain ⟨rfl, k1⟩ := r
  refine wpAny_mono (qe_loc qv (by show env.scope.names.lookup x2 = _; rw [hsc]; exact hx2) hm2 hdx2 A E s1 dp (kb.go k1) (keeps_ns hns k1)) (fun o2 s2 r => ?_) fun _ _ z => z
  obtain ⟨rfl, k2⟩ := r
  cases d with
  | int i =>
    cases d2 with
    | int j =>
      obtain ⟨t, rfl⟩ := (show ∃ t, o1 = .int i t from kd)
      obtain ⟨t2, rfl⟩ := (show ∃ t, o2 = .int j t from kd2)
      exact PySem.wpAny_lt_int ⟨rfl, keeps_tr k1 k2⟩
    | _ => exact hok2.elim
  | _ => exact hok.elim
end
end DL

set_option Elab.async false
set_option linter.all false
set_option maxRecDepth 100000
set_option maxHeartbeats 4000000
/-! all of a generator expression over a tuple, whose element reads a name of the def around -/
namespace DL
open PySem PySem.Spec PyProof.Rows L2 RZ
variable [Tb]
def genOkY (scope : Scope) (x y : Str) : Bool := (match scope.kind with | .function => true | _ => false) && (!scope.isCoroutine && (scope.names.all (fun z => match z.2 with | .cell => false | .free => z.1 == y | _ => true) &&
  ((match scope.names.lookup (".0" : Str) with | some .local => true | _ => false) && ((match scope.names.lookup x with | some .local => true | _ => false) && (scope.names.any (fun z => z.1 == y && (match z.2 with | .free => true | _ => false)) && (match scope.names.lookup y with | some .free => true | _ => false))))))
theorem gensY_of {X : Cx} {scope : Scope} {x y : Str} (h : genOkY scope x y = true) (hky : X.env.scope.names.lookup y = some .cell) (ok : X.Ok) : GxR.GenS X.env scope x ∧ (y, NameKind.free) ∈ scope.names ∧ scope.names.lookup y = some .free := by
  unfold genOkY at h
  simp only [Bool.and_eq_true, Bool.not_eq_true', List.all_eq_true, List.any_eq_true] at h
  obtain ⟨h1, h2, h3, h4, h5, h6, h7⟩ := h
  refine ⟨⟨?_, h2, fun z m e => ?_, ?_, ?_, fun z m e => ?_⟩, ?_, ?_⟩
  · split at h1
    · assumption
    · cases h1
  · have := h3 z m
    rw [e] at this
    cases this
  · split at h4
    · assumption
    · cases h4
  · split at h5
    · assumption
    · cases h5
  · have := h3 z m
    rw [e] at this
    have : z.1 = y := eq_of_beq this
    rw [this]
    exact ok.has y (.inl hky)
  · obtain ⟨⟨a, b⟩, m, e1, e2⟩ := h6
    obtain rfl := eq_of_beq e1
    split at e2
    · rename_i e3
      rw [← (show b = NameKind.free from e3)]
      exact m
    · cases e2
  · split at h7
    · assumption
    · cases h7
/-- the test of one thing and of what a name of the def around holds: quiet -/
def EltY (X : Cx) (scope : Scope) (x y : Str) (elt : Expr) (ok : PyData → PyData → Prop) (pb : PyData → PyData → Bool) : Prop :=
  ∀ (B : Kept) (env : Env) (m : Str → Option Value) (d e : PyData) (u ue : Value) (cy : Addr), L2.Mod X.K X.mg X.base → (∀ b o, X.base.get? b = some o → B b o) → QEnv env → env.scope = scope → m x = some u → env.cells.lookup y = some cy → (∃ o, B cy o ∧ o.data = .cell (some ue)) → Knd B u d → Knd B ue e → ok e d → Qe X.prog X.w B (X.A.depth + 1) env m elt (· = .bool (pb e d))
section
variable {X : Cx} {pins : List (Addr × Obj)} {σ : L2.St} {H : Hp} {s : Shared}
theorem gen_tupY {c P : Addr} {elt iter : Expr} {x y : Str} {jy : Nat} {px gpos : Pos} {scope : Scope} {ok : PyData → PyData → Prop} {pb : PyData → PyData → Bool} {te : TE} {k : Nat} {Q' : Value → Shared → Prop} {R : PyData → List PyData → Hp → Prop}
    (hr : Room k X.A) (TB : GxR.TabB X.base X.mg c P) (hcode : X.env.code = .ref c) (hgo : genOkY scope x y = true) (hNy : X.N[jy]? = some y) (hky : X.env.scope.names.lookup y = some .cell) (hi : PE X iter te) (hel : EltY X scope x y elt ok pb)
    (hs : ∀ v, genFold iter X.env v = pure v) (I : Inv X pins σ H s)
    (h : te σ H fun v H1 => ∃ (a : Addr) (xs : List V) (ds : List PyData) (O : List Addr) (wy : V) (dy : PyData), v = .ref a ∧ SqT X.K H1 a xs ∧ DxAll X.K (hid O H1) xs ds ∧ σ[jy]? = some (some wy) ∧ Dx X.K (hid O H1) wy dy ∧ (∀ d ∈ ds, ok dy d) ∧ GxR.TabG H1 P ∧ R dy ds H1)
    (hQ : ∀ dy ds H1 g s5, R dy ds H1 → RdyD X pins σ H1 P ds (pb dy) g s5 → Q' (.ref g) s5) :
    wpAny (model X.prog X.w) X.A (eval (.GeneratorExp elt [⟨.Name x px, iter, [], 0⟩] scope gpos) X.env) Q' X.xe s := by
  obtain ⟨S, hfy, hly⟩ := gensY_of hgo hky I.ok
  refine wpAny_GeneratorExp_walksQD hr.hd S.co (closure_ok S.free) S.cell S.dot S.loc S.kind (by have := hr.dp; omega) ?_ hs
  refine thn (hi.run pins s σ H _ I h) ?_
  rintro xv s1 ⟨v, H1, I1, r1, a, xs, ds, O, wy, dy, rfl, hT, hD, hwy, hdy, hok, ⟨ps, hP, ht⟩, q1⟩
  cases (show xv = Value.ref a from r1)
  obtain ⟨its, ot, nt, rv, eo, ec, ed⟩ := L2.sqT_at I1.hok I1.kIn hT
  have tup1 : s1.heap.IsTuple a its.toArray := ⟨ot, eo, ec, nt, ed⟩
  have len : its.length = ds.length := by rw [← rv.length]; exact hD.len
  refine wpAny_pyIter_tuple tup1 ?_
  generalize eit : ({ cls := .type "tuple_iterator", data := .fields #[.ref a, .int 0 0] } : Obj) = it
  have atP : s1.heap.get? P = some { cls := .none, data := .fields ps } := I1.hok P _ hP
  have ltP : P < s1.heap.objs.size := Heap.lt_size atP
  have lta : a < s1.heap.objs.size := Heap.lt_size eo
  have neP : ∀ b o, s1.heap.get? b = some o → (o.cls = .type "list" ∨ o.cls = .type "tuple" ∨ o.cls = .type "dict") → b ≠ P := fun b o e hc z => by
    rw [z, atP] at e
    cases e
    rcases hc with z | z | z <;> cases z
  have up : ∀ b o, s1.heap.get? b = some o → (s1.heap.push it).get? b = some o := fun b o e => Heap.get?_push_of_some _ e
  have iter0 : (s1.heap.push it).IsTupleIter s1.heap.objs.size a 0 := by
    subst eit
    exact ⟨_, Heap.get?_push_size _ rfl, rfl, rfl⟩
  have atP2 := up _ _ atP
  have cd : PySem.W.CodeHd (s1.heap.push it) c P := TB.code.keeps fun b u e => up b u (I1.bk b u e)
  have lim2 : (s1.heap.push it).NoLimit := I1.nolimit.push it
  obtain ⟨my, hns, hlook⟩ := I1.loc
  obtain ⟨uy, ry, hlk⟩ := hlook jy y wy hNy hwy (Or.inr (Or.inl hky))
  obtain ⟨cy, hcy, ocy, hoc, hod⟩ : ∃ c, X.env.cells.lookup y = some c ∧ s1.heap.IsCell c (some uy) := by
    rcases hlk with z | z
    · have : some NameKind.cell = some .local := hky.symm.trans z.1
      cases this
    · exact z.2
  have ncP : cy ≠ P := fun z => by
    rw [z, atP] at hoc
    cases hoc
    cases hod
  -- behind the making of the code object, whether it was there or not
  have go : ∀ (code : Value) (h3 : Heap) (tk : Nat) (ps' : Array Value), Heap.ExtBut P (s1.heap.push it) h3 → (s1.heap.push it).objs.size ≤ h3.objs.size → h3.get? P = some { cls := .none, data := .fields ps' } → (∃ more, ps' = ps ++ more) → TriplesOk ps'.toList →
      wpAny (model X.prog X.w) X.A (builtinsFor X.env.globals X.env.builtins) (fun bi s₄ =>
        ∃ Ia fp wr n₀ Pf St₀ pz F, Value.ref s1.heap.objs.size = .ref Ia ∧ (∀ A' : Around, A'.handled = none → Walks X.prog X.w A' Ia fp wr n₀ Pf St₀) ∧ St₀ 0 s₄.heap ∧ (∀ b ∈ fp, b < s₄.heap.objs.size) ∧ s₄.heap.NoLimit ∧ cStatics ∉ wr ∧
          (∀ href : Heap, (∀ b o, s₄.heap.get? b = some o → href.get? b = some o) →
            QuietGenD X.prog X.w (genEnv scope (cloFrom X.env.cells scope.names []) s₄.heap.objs.size code bi X.env) x [] elt (List.range s₄.heap.objs.size) wr Pf pz F href (X.A.depth + 1) (X.A.units + 8)) ∧
          (∀ a h₅ tk gs, gs.bare = true → s₄.heap.objs.size < a → h₅.objs.size = a + 1 → (∀ b o, s₄.heap.get? b = some o → h₅.get? b = some o) →
            WalksS X.prog X.w X.A.in4 a (a :: s₄.heap.objs.size :: List.range s₄.heap.objs.size) (s₄.heap.objs.size :: wr) (GenOnlyQ s₄.gens.size) (passing pz n₀ 0).length
              (fun j y => ∃ i, (passing pz n₀ 0)[j]? = some i ∧ F i y) (GenAt X.prog X.w X.A.in4 a s₄.gens.size s₄.heap.objs.size (List.range s₄.heap.objs.size) wr pz n₀ F) →
            GenAt X.prog X.w X.A.in4 a s₄.gens.size s₄.heap.objs.size (List.range s₄.heap.objs.size) wr pz n₀ F 0 { s₄ with gens := s₄.gens.push gs, toks := tk, heap := h₅ } →
            Q' (.ref a) { s₄ with gens := s₄.gens.push gs, toks := tk, heap := h₅ })) X.xe { s1 with heap := h3, toks := tk } := by
    rintro code h3 tk _ grown big atP3 ⟨more, rfl⟩ ht3
    obtain ⟨bm, ob, e1, e2, e3, e4, e5, e6, e7, e8⟩ := TB.bm
    have lts : cStatics < s1.heap.objs.size := let ⟨_, hns, _⟩ := I1.nolimit; hns.lt
    have nesP : cStatics ≠ P := fun z => by
      obtain ⟨_, ⟨o', es, ep, ho, hd, _⟩, _⟩ := I1.nolimit
      rw [z, atP] at ho
      cases ho
      cases hd
    have size2 : (s1.heap.push it).objs.size = s1.heap.objs.size + 1 := Heap.size_push ..
    have keep : ∀ b u, b ≠ P → s1.heap.get? b = some u → h3.get? b = some u := fun b u n e => grown b u n (up b u e)
    have iter3 : h3.IsTupleIter s1.heap.objs.size a 0 := iter0.at fun u e => grown _ u (Nat.ne_of_gt ltP) e
    have tup3 : h3.IsTuple a its.toArray := ⟨ot, keep _ _ (neP a ot eo (.inr (.inl ec))) eo, ec, nt, ed⟩
    refine wpAny_builtinsFor (m := X.mg) (by rw [I1.ok.glob]; exact ((I1.mod.glob.keeps I1.bk).push it).extBut grown TB.gP) e1 e2 (keep _ _ e4 (I1.bk _ _ e5)) e6 e7 e8 ?_
    refine ⟨_, [s1.heap.objs.size, a], [s1.heap.objs.size], its.toArray.size, (fun i v => its.toArray[i]? = some v), (fun i h => h.IsTupleIter s1.heap.objs.size a i ∧ h.IsTuple a its.toArray), (fun _ => true), (fun i y => ∃ d, ds[i]? = some d ∧ y = .bool (pb dy d)), rfl,
      fun A' hA => Walks.tuple hA _ _ (Nat.ne_of_lt lta) _, ⟨iter3, tup3⟩, fun b m => ?_, lim2.extBut grown nesP, fun m => ?_, fun href sub => ⟨?_, ?_⟩, ?_⟩
    · have big1 : s1.heap.objs.size < h3.objs.size := Nat.lt_of_lt_of_le (by rw [size2]; exact Nat.lt_succ_self _) big
      show b < h3.objs.size
      rcases List.mem_cons.mp m with z | m
      · rw [z]; exact big1
      · rw [List.mem_singleton.mp m]; exact Nat.lt_trans lta big1
    · exact Nat.ne_of_lt lts (List.mem_singleton.mp m)
    · intro A' E' i v s₂ m₂ _ _ _ _ _ _ _
      simp only [List.forIn_nil]
      exact wpAny_pure ⟨rfl, GxR.keeps_refl _⟩
    · intro A' E' i v s₂ m₂ _ dp _ hv _ hn hm hk
      have hv2 : its[i]? = some v := by simpa using hv
      have il : i < its.length := (List.getElem?_eq_some_iff.mp hv2).1
      obtain ⟨y, hy⟩ : ∃ y, xs[i]? = some y := ⟨xs[i]'(by rw [rv.length]; exact il), List.getElem?_eq_getElem _⟩
      obtain ⟨u, hu, ru⟩ := rv.get hy
      rw [hv2] at hu
      cases hu
      obtain ⟨d, hd, dx⟩ := hD.get' hy
      -- all that stood ahead of it but for the table and the iterator is kept
      let B : Kept := fun b o => b ≠ P ∧ s1.heap.get? b = some o
      have kb : KIn B s₂.heap := fun b o e => hk b (List.mem_range.mpr (by
          have l := Heap.lt_size e.2
          have big1 : s1.heap.objs.size < h3.objs.size := Nat.lt_of_lt_of_le (by rw [size2]; exact Nat.lt_succ_self _) big
          exact Nat.lt_trans l big1)) (fun m => by
          have l := Heap.lt_size e.2
          rw [List.mem_singleton.mp m] at l
          exact Nat.lt_irrefl _ l) o (sub b o (keep b o e.1 e.2))
      have inB : ∀ b o, X.base.get? b = some o → B b o := fun b o e => ⟨fun z => (by
          have := (I1.bs b o e).2
          rw [z, hP] at this
          cases this), I1.bk b o e⟩
      have kd : Knd B v d := knd_of I1 ru (Dx.same hid_sub d y dx) fun b o e hc => ⟨neP b o e hc, e⟩
      have qv : QEnv (genEnv scope (cloFrom X.env.cells scope.names []) h3.objs.size code builtinsNs X.env) := ⟨S.kind, I1.ok.glob, rfl⟩
      have kdy : Knd B uy dy := knd_of I1 ry (Dx.same hid_sub dy wy hdy) fun b o e hc => ⟨neP b o e hc, e⟩
      exact wpAny_mono (hel B _ m₂ d dy v uy cy I1.mod inB qv rfl hm (NdefX.clo_has S.free hfy hcy) ⟨ocy, ⟨ncP, hoc⟩, hod⟩ kd kdy (hok d (List.mem_of_getElem? hd)) A' E' s₂ dp kb hn) (fun y s3 r => ⟨⟨d, hd, r.1⟩, r.2⟩) fun _ _ e => e
    · intro g h5 tk5 gs bare ag sz5 k5 W5 at0
      simp only [GxR.passing_true, List.length_range] at W5
      have n5 : its.toArray.size = ds.length := by rw [List.size_toArray, len]
      rw [n5] at W5 at0
      refine hQ dy ds H1 g _ q1 ⟨_, _, _, _, _, W5.in4_1, at0, ?_, fun s' hm => ?_⟩
      · rintro j y sj Qj Ej ⟨i, hij, d, hd, rfl⟩ hQj
        obtain ⟨hj, ej⟩ := List.getElem?_eq_some_iff.mp hij
        rw [List.getElem_range] at ej
        subst ej
        refine wpAny_truthy_bool ?_
        have e : trD (pb dy) ds j = pb dy d := by unfold trD; rw [hd]
        rw [← e]
        exact hQj
      · have apart : ∀ b u, s1.heap.get? b = some u → b ∉ h3.objs.size :: [s1.heap.objs.size] := fun b u e m => by
          have l := Heap.lt_size e
          rcases List.mem_cons.mp m with z | m
          · rw [z] at l
            have : (h3.objs.size : Nat) < s1.heap.objs.size := l
            omega
          · rw [List.mem_singleton.mp m] at l
            exact Nat.lt_irrefl _ l
        have J := GxR.inv_tab (more := more) (h' := s'.heap) (g' := s'.gens) (d' := s'.drawn) (t' := s'.toks) I1 hP (fun b u n e => hm.heap b u (apart b u e) (k5 b u (keep b u n e)))
          (hm.heap P _ (apart P _ atP) (k5 P _ atP3)) (AllBare.movedS (I1.bare.push bare) hm)
        rw [GxR.sh_eta s1 s' hm.os] at J
        exact ⟨upd H1 P (.tbl (ps ++ more)), ⟨⟨ps ++ more, upd_same, ht3⟩, fun b n => upd_ne n⟩, J⟩
  refine ⟨lim2, ?_⟩
  cases hf : codeAmong gpos ps.toList with
  | some cv => exact wpAny_genexprCode_hit hcode (cd.code atP2 ht) hf (go cv _ s1.toks ps (Heap.ExtBut.refl _ _) (Nat.le_refl _) atP2 ⟨#[], by simp⟩ ht)
  | none =>
    refine wpAny_genexprCodeX hcode (cd.code atP2 ht) (cd.tab atP2) hf ?_
    intro c' h' tk hx hge hlt hco' _ htab' _
    obtain ⟨o1, vs, f1, tf, fl, tg, inF, tx, tt, op, _, _, _, _, _, _, _, _, _, htr, _⟩ := hco'
    exact go _ h' tk _ hx (Nat.le_trans hge (Nat.le_of_lt hlt)) htab'.2 ⟨_, rfl⟩ htr
def tAllY (K : PySem.W.Frag) (P : Addr) (jy : Nat) (ok : PyData → PyData → Prop) (pb : PyData → PyData → Bool) (te : TE) : TE := fun σ H Q => te σ H fun v H1 => ∃ (a : Addr) (xs : List V) (ds : List PyData) (O : List Addr) (wy : V) (dy : PyData), v = .ref a ∧ SqT K H1 a xs ∧ DxAll K (hid O H1) xs ds ∧ σ[jy]? = some (some wy) ∧ Dx K (hid O H1) wy dy ∧ (∀ d ∈ ds, ok dy d) ∧ GxR.TabG H1 P ∧
  ∀ H2, GxR.Tabbed P H1 H2 → Q (.bl (ds.all (pb dy))) H2
theorem pe_allY {c P : Addr} {elt iter : Expr} {x y : Str} {jy : Nat} {px p pos gpos : Pos} {scope : Scope} {ok : PyData → PyData → Prop} {pb : PyData → PyData → Bool} {te : TE} {k : Nat}
    (hr : Room k X.A) (hg : Gl X "all") (hm : X.mg "all" = none) (hb : bootBuiltins "all" = some (.builtin "all")) (TB : GxR.TabB X.base X.mg c P) (hcode : X.env.code = .ref c) (hgo : genOkY scope x y = true) (hNy : X.N[jy]? = some y) (hky : X.env.scope.names.lookup y = some .cell) (hi : PE X iter te) (hel : EltY X scope x y elt ok pb)
    (hs : ∀ v, genFold iter X.env v = pure v)
    (he : starEach [.GeneratorExp elt [⟨.Name x px, iter, [], 0⟩] scope gpos] X.env = (false, eval (.GeneratorExp elt [⟨.Name x px, iter, [], 0⟩] scope gpos) X.env) :: starEach [] X.env := by rfl) :
    PE X (.Call (.Name "all" p) [.GeneratorExp elt [⟨.Name x px, iter, [], 0⟩] scope gpos] [] pos) (tAllY X.K P jy ok pb te) := by
  constructor
  intro pins s σ H Q I h
  refine wpAny_Call_Name_kw (ld_blt I hg hm hb ?_)
  refine PyProof.Rows.callWith_builtin1 ?_ he (by rfl)
  rw [he]
  show wpAny _ _ (spliced ((false, eval (.GeneratorExp elt [⟨.Name x px, iter, [], 0⟩] scope gpos) X.env) :: backTo pos (starEach [] X.env))) _ _ s
  refine Calls.spliced_cons (gen_tupY (R := fun dy ds H1 => ∀ H2, GxR.Tabbed P H1 H2 → Q (.bl (ds.all (pb dy))) H2) hr TB hcode hgo hNy hky hi hel hs I h ?_)
  rintro dy ds H1 g s5 hR ⟨fp, wr, G, F, St, W, hst, htr, hI⟩
  refine Calls.spliced_nil (call_all_walkS (W.self 0 _ _ _ hst ⟨g, fp, wr, G, _, F, St, _, rfl, W, hst, htr, fun s' hmv => ?_⟩))
  obtain ⟨H2, hT, J⟩ := hI s' hmv
  rw [all_trD]
  exact ⟨.bl _, H2, J, rfl, hR H2 hT⟩
end
section
variable {X : Cx} {elt iter : Expr} {x y : Str} {jy : Nat} {px p pos gpos : Pos} {scope : Scope} {ok : PyData → PyData → Prop} {pb : PyData → PyData → Bool} {fd : FuncData} {c P : Addr} {k : Nat} {w : WD}
def dAllY (ok : PyData → PyData → Prop) (f : PyData → List PyData → Bool) (s : SV) (d : PyData) (Q : RV → Prop) : Prop := match s, d with
  | .va e, .tuple ds => (∀ d ∈ ds, ok e d) ∧ Q (.va (.bool (f e ds)))
  | _, _ => False
theorem dAllY_mo {f : PyData → List PyData → Bool} {s : SV} {d : PyData} {Q Q' : RV → Prop} (k : ∀ r, Q r → Q' r) (q : dAllY ok f s d Q) : dAllY ok f s d Q' := by
  unfold dAllY at q ⊢
  split at q
  · exact ⟨q.1, k _ q.2⟩
  · exact q.elim
/-- all of a generator over a tuple, the element reads the name at slot jy, too -/
theorem evr_allY (jy : Nat) (G : GenT X.mg X.base fd c P) (hcode : X.env.code = fd.code) (hr : RmG k X.A) (hm : X.mg "all" = none) (hb : bootBuiltins "all" = some (.builtin "all")) (hgo : genOkY scope x y = true) (hNy : X.N[jy]? = some y) (hky : X.env.scope.names.lookup y = some .cell) (h : Ev .sh X iter w) (hel : EltY X scope x y elt ok pb)
    (hg : Gl X "all" := by rfl) (hs : ∀ v, genFold iter X.env v = pure v := by intro _; rfl)
    (he : starEach [.GeneratorExp elt [⟨.Name x px, iter, [], 0⟩] scope gpos] X.env = (false, eval (.GeneratorExp elt [⟨.Name x px, iter, [], 0⟩] scope gpos) X.env) :: starEach [] X.env := by rfl) :
    EvR X (.Call (.Name "all" p) [.GeneratorExp elt [⟨.Name x px, iter, [], 0⟩] scope gpos] [] pos) (fun sd Q => w sd fun d => dAllY ok (fun e ds => ds.all (pb e)) (getS sd jy) d Q) where
  pe := PE.weak (pe_allY hr.rm hg hm hb G.tb (hcode.trans G.hc) hgo hNy hky h.pe hel hs he) fun σ H Q ⟨c, sd, os, hk, r, q⟩ => by
    refine ⟨c, sd, os, hk, r, h.mo _ _ _ (fun d k v H1 x1 dm => ?_) q⟩
    unfold dAllY at k
    split at k
    · rename_i sv0 d0 e ds eg
      obtain ⟨a, us, rfl, h1, h2⟩ := shTup dm
      have r1 := r.grow x1
      obtain ⟨v, oa, g1, g2, g3, yv, rfl, g4⟩ := r1.at_ eg (by intro z; cases z)
      exact ⟨a, us, ds, OO c os, yv, e, rfl, SqT.same hid_sub h1, h2, g1, by rw [← hk]; exact g4, k.1, r1.srcNow.2 P G.mem, fun H2 ht => k.2 _ H2 (x1.trans (ext_tab r1.srcNow G.mem ht)) (.bl _)⟩
    · exact k.elim
  mo := fun sd Q Q' k q => h.mo _ _ _ (fun d z => dAllY_mo (fun r y => k r y) z) q
end
end DL

set_option Elab.async false
set_option linter.all false
set_option maxRecDepth 100000
set_option maxHeartbeats 4000000
/-! quiet: a name of the def around, a call of two things, a chain of numbers -/
namespace DL
open PySem PySem.Spec PyProof.Rows L2 RZ
section
variable {prog : Program} {w : World} {B : Kept} {D : Nat} {env : Env} {m : Str → Option Value} {K : PySem.W.Frag} {mg : Str → Option Value} {base : Heap} {pos p p1 p2 : Pos} {a b : Expr} {rest : List Expr}
theorem qe_free {x : Str} {v : Value} {c : Addr} (q : QEnv env) (hl : env.kindOf x = some .free) (hc : env.cells.lookup x = some c) (ho : ∃ o, B c o ∧ o.data = .cell (some v)) (hd : (x == ("__debug__" : Str)) = false := by decide) (hcd : (x == ("__classdict__" : Str)) = false := by decide) :
    Qe prog w B D env m (.Name x pos) (· = v) := fun A E s _ kb _ => by
  obtain ⟨o, h1, h2⟩ := ho
  exact wpAny_Name (wpAny_loadName_free q.kind hl hc ⟨o, kb c o h1, h2⟩ ⟨rfl, GxR.keeps_refl s⟩ hcd) hd
theorem qe_call2 {x : Str} {f : Addr} {v u : Value} {F : Value → Prop} (q : QEnv env) (M : L2.Mod K mg base) (hB : ∀ b o, base.get? b = some o → B b o) (h : Qe prog w B D env m a (· = v)) (h2 : Qe prog w B D env m b (· = u)) (hf : QFn prog w B D f [v, u] F)
    (hg : env.kindOf x = some .globalImplicit) (hm : mg x = some (.ref f)) (hk : PySem.W.keepIn K (.ref f) = true) (hdb : (x == ("__debug__" : Str)) = false := by decide)
    (e1 : starEach [a, b] env = (false, eval a env) :: starEach [b] env := by rfl) (e2 : starEach [b] env = (false, eval b env) :: starEach [] env := by rfl) (hpl : (backTo pos (starEach [b] env)).any (·.1) = false := by rfl) :
    Qe prog w B D env m (.Call (.Name x p) [a, b] [] pos) F := fun A E s dp kb hns => by
  refine wpAny_Call_Name_kw (wpAny_mono (qe_glob q M hB hg hm hdb A E s dp kb hns) (fun y s1 r1 => ?_) fun _ _ z => z)
  obtain ⟨rfl, k1⟩ := r1
  refine PySem.W.callWith_K (h₀ := base) M.kin hk ?_ e1 hpl
  refine wpAny_items_cons (wpAny_mono (h A E s1 dp (kb.go k1) (keeps_ns hns k1)) (fun y s2 r2 => ?_) fun _ _ z => z) e1
  obtain ⟨rfl, k2⟩ := r2
  have k12 := keeps_tr k1 k2
  refine wpAny_items_cons (wpAny_mono (h2 A E s2 dp (kb.go k12) (keeps_ns hns k12)) (fun y s3 r3 => ?_) fun _ _ z => z) e2
  obtain ⟨rfl, k3⟩ := r3
  have k13 := keeps_tr k12 k3
  refine Calls.spliced_nil ⟨?_, ?_⟩
  · exact M.kin.keeps fun b o e => kb.go k13 b o (hB b o e)
  · exact wpAny_mono (hf A E s3 dp (kb.go k13)) (fun y s4 r4 => ⟨r4.1, keeps_tr k13 r4.2⟩) fun _ _ z => z
/-- 0 <= i < j -/
theorem qe_chain0 {i j : Int} {k0 : Nat} (h : Qe prog w B D env m a fun v => ∃ t, v = .int i t) (h2 : Qe prog w B D env m b fun v => ∃ t, v = .int j t) (hm : lastMarks [CmpOp.LtE, CmpOp.Lt] [a, b] = false := by with_unfolding_all rfl) :
    Qe prog w B D env m (.Compare (.Constant (.int 0) k0 p) [.LtE, .Lt] [a, b] pos) (· = .bool (decide (0 ≤ i) && decide (i < j))) := fun A E s dp kb hns => by
  refine Compare_chain (wpAny_Constant_int ?_) hm
  have k0 := GxR.keeps_tok s (s.toks + 1)
  refine chain_link (wpAny_mono (h A E _ dp (kb.go k0) (keeps_ns hns k0)) (fun y s2 r2 => ?_) fun _ _ z => z)
  obtain ⟨⟨t, rfl⟩, k2⟩ := r2
  have k12 := keeps_tr k0 k2
  refine PyProof.Rows.le_int (wpAny_truthy_bool ?_)
  by_cases c : 0 ≤ i
  · rw [if_pos (decide_eq_true c)]
    refine chain_last (wpAny_mono (h2 A E s2 dp (kb.go k12) (keeps_ns hns k12)) (fun y s3 r3 => ?_) fun _ _ z => z)
    obtain ⟨⟨t2, rfl⟩, k3⟩ := r3
    exact wpAny_lt_int ⟨by rw [decide_eq_true c, Bool.true_and], keeps_tr k12 k3⟩
  · rw [if_neg (fun z => c (of_decide_eq_true z))]
    exact ⟨by rw [decide_eq_false c, Bool.false_and], k12⟩
end
section
variable [Tb]
variable {X : Cx} {scope : Scope} {x y : Str} {ok : PyData → PyData → Prop} {pb : PyData → PyData → Bool} {k : Nat}
/-- the element f(x, y), y a name of the def around -/
theorem elt_call2 {f : Addr} {fd : FuncData} {z : Str} {ps : List Str} {p p1 p2 p3 : Pos} (C : Cal X.K X.mg z f fd ps)
    (hq : ∀ (B : Kept) (D : Nat) (d e : PyData) (u ue : Value), L2.Mod X.K X.mg X.base → (∀ b o, X.base.get? b = some o → B b o) → D + 1 < recursionLimit → Knd B u d → Knd B ue e → ok e d → QFn X.prog X.w B D f [u, ue] (· = .bool (pb e d)))
    (hr : RmG (k + 2) X.A) (hx : scope.names.lookup x = some .local) (hy : scope.names.lookup y = some .free) (hz : scope.names.lookup z = some .globalImplicit) (hdx : (x == ("__debug__" : Str)) = false := by decide) (hdy : (y == ("__debug__" : Str)) = false := by decide) (hcy : (y == ("__classdict__" : Str)) = false := by decide) (hdz : (z == ("__debug__" : Str)) = false := by decide) :
    EltY X scope x y (.Call (.Name z p) [.Name x p1, .Name y p2] [] p3) ok pb := fun B env m d e u ue cy M hB qv hsc hm hc ho kd kde hok => by
  have hD : X.A.depth + 1 + 1 < recursionLimit := by have := hr.rm.dp; omega
  exact qe_call2 qv M hB (qe_loc qv (by show env.scope.names.lookup x = _; rw [hsc]; exact hx) hm hdx) (qe_free qv (by show env.scope.names.lookup y = _; rw [hsc]; exact hy) hc ho hdy hcy) (hq B _ d e u ue M hB hD kd kde hok) (by show env.scope.names.lookup z = _; rw [hsc]; exact hz) C.hm C.hk hdz
end
end DL

set_option Elab.async false
set_option linter.all false
set_option maxRecDepth 100000
set_option maxHeartbeats 4000000
/-! isinstance of two classes -/
namespace DL
open PySem PySem.Spec PyProof.Rows L2
variable [Tb]
section
variable {X : Cx} {e : Expr} {pos p p1 p2 p3 tpos : Pos} {kt : Nat}
theorem evr_is2 {w : WD} (T1 T2 : String) (x1 x2 : Str) {f1 f2 : PyData → Bool} (k1 : ∀ d, kitB (tyN d) T1 = some (f1 d)) (k2 : ∀ d, kitB (tyN d) T2 = some (f2 d)) (h : Ev .bo X e w) (hm : X.mg "isinstance" = none) (hm1 : X.mg x1 = none) (hm2 : X.mg x2 = none) (hv : bootBuiltins "isinstance" = some (.builtin "isinstance")) (hv1 : bootBuiltins x1 = some (.type T1)) (hv2 : bootBuiltins x2 = some (.type T2))
    (hg : Gl X "isinstance" := by rfl) (hg1 : Gl X x1 := by rfl) (hg2 : Gl X x2 := by rfl) (hn1 : x1 ≠ "__name__" := by decide) (hn2 : x2 ≠ "__name__" := by decide) (hdb1 : (x1 == ("__debug__" : Str)) = false := by decide) (hdb2 : (x2 == ("__debug__" : Str)) = false := by decide)
    (s1 : starEach [e, .Tuple [.Name x1 p1, .Name x2 p2] kt tpos] X.env = (false, eval e X.env) :: starEach [.Tuple [.Name x1 p1, .Name x2 p2] kt tpos] X.env := by rfl)
    (s2 : starEach [.Tuple [.Name x1 p1, .Name x2 p2] kt tpos] X.env = (false, eval (.Tuple [.Name x1 p1, .Name x2 p2] kt tpos) X.env) :: starEach [] X.env := by rfl)
    (s3 : starEach [.Name x1 p1, .Name x2 p2] X.env = (false, eval (.Name x1 p1) X.env) :: starEach [.Name x2 p2] X.env := by rfl) (s4 : starEach [.Name x2 p2] X.env = (false, eval (.Name x2 p2) X.env) :: starEach [] X.env := by rfl)
    (hpl : (backTo pos (starEach [.Tuple [.Name x1 p1, .Name x2 p2] kt tpos] X.env)).any (·.1) = false := by rfl) :
    EvR X (.Call (.Name "isinstance" p) [e, .Tuple [.Name x1 p1, .Name x2 p2] kt tpos] [] pos) (wIs (fun d => f1 d || f2 d) w) where
  pe := PE.weak (pe_callB call_isiT hg hm hv (pa_cons h.pe (pa_cons (pe_tup (pa_cons (pe_bltn hg1 hm1 hv1 (v := V.ty T1) rfl hn1 hdb1) (pa_cons (pe_bltn hg2 hm2 hv2 (v := V.ty T2) rfl hn2 hdb2) pa_nil s4) s3)) pa_nil s2) s1) (he := s1) (hpl := hpl)) fun σ H Q ⟨c, sd, os, hk, r, q⟩ =>
    ⟨c, sd, os, hk, r, h.mo _ _ _ (fun d k v H1 x1 dm => by
      have ka : PySem.W.kitAny X.K (.type (tyN d)) [.type T1, .type T2] = some (f1 d || f2 d) :=
        kitAny_cons (kit_ty (k1 d)) (fun e => by
          rw [e, Bool.false_or]
          exact kitAny_cons (kit_ty (k2 d)) (fun e2 => by rw [e2]; exact kitAny_nil) (fun e2 => e2)) (fun e => by rw [e, Bool.true_or])
      refine ⟨by show 2 ≤ sizeLine; decide, fun a ha => ?_⟩
      exact ⟨v, a, [.ty T1, .ty T2], .type (tyN d), [.type T1, .type T2], _, rfl, upd_same, .cons (.ty T1) (.cons (.ty T2) .nil), Dx.ty (Dx.same (same_new ha) _ _ (Dx.same hid_sub _ _ dm)), ka, k _ _ (x1.trans (Ext.of (same_new ha))) (.bl _)⟩) q⟩
  mo := fun sd Q Q' k q => h.mo _ _ _ (fun d z => k _ z) q
end
end DL

set_option Elab.async false
set_option linter.all false
set_option maxRecDepth 100000
set_option maxHeartbeats 4000000
/-! a tuple of any things against the empty one -/
namespace DL
open PySem PySem.Spec PyProof.Rows L2
variable [Tb]
def rEqE (K : PySem.W.Frag) : R2 := fun x y H Q => ∃ (a b : Addr) (xs : List V), x = .ref a ∧ y = .ref b ∧ SqT K H a xs ∧ SqT K H b [] ∧ Q (.bl xs.isEmpty) H
theorem op_eqE {X : Cx} (hu : X.A.units + 64 < cLine) : OpR X (compareOp .Eq) (rEqE X.K) := by
  intro pins s σ H x y v u Q I rx ry h
  obtain ⟨a, b, xs, rfl, rfl, h1, h2, q⟩ := h
  cases (show v = Value.ref a from rx)
  cases (show u = Value.ref b from ry)
  obtain ⟨its, rv, p1, _⟩ := I.tuple h1
  obtain ⟨its2, rv2, p2, _⟩ := I.tuple h2
  have l1 := rv.length
  have l2 := rv2.length
  have e2 : its2 = [] := List.eq_nil_of_length_eq_zero l2.symm
  subst e2
  refine SeqAt.eq_tupleAt (e := fun _ => true) (show s.heap.IsTuple a its.toArray from p1) (show s.heap.IsTuple b ([] : List Value).toArray from p2) (by omega) (fun j h1 h2 => absurd h2 (Nat.not_lt_zero _)) ⟨.bl xs.isEmpty, H, I, ?_, q⟩
  show Value.bool _ = Value.bool _
  congr 1
  cases xs with
  | nil =>
    have : its = [] := List.eq_nil_of_length_eq_zero l1.symm
    subst this
    rfl
  | cons x xs =>
    cases its with
    | nil => cases l1
    | cons i is => simp
def rdEqE : RD2 := fun d e Q => match d, e with
  | .tuple xs, .tuple [] => Q (.va (.bool xs.isEmpty))
  | _, _ => False
theorem rdEqE_mo : Mo2 rdEqE := by
  intro d e Q Q' k q
  unfold rdEqE at q ⊢
  split at q
  · exact k _ q
  · exact q.elim
theorem od_eqE {X : Cx} (hu : X.A.units + 64 < cLine) : OpD X (compareOp .Eq) .sh .sh rdEqE where
  ex := ⟨_, op_eqE hu, fun S O H x y d e Q hs hO hx hy q => by
    unfold rdEqE at q
    split at q
    · obtain ⟨a, us, rfl, h1, h2⟩ := shTup hx
      obtain ⟨b, ws, rfl, g1, g2⟩ := shTup hy
      cases g2
      refine ⟨a, b, us, rfl, rfl, SqT.same hid_sub h1, SqT.same hid_sub g1, ?_⟩
      rw [h2.emp]
      exact q _ H (Same.refl H) (.bl _)
    · exact q.elim⟩
  mo := rdEqE_mo
end DL

set_option Elab.async false
set_option linter.all false
set_option maxRecDepth 100000
set_option maxHeartbeats 4000000
/-! any() of a list of truths -/
namespace DL
open PySem PySem.Spec PyProof.Rows L2
variable [Tb]
variable {X : Cx}
def dAny (d : PyData) (Q : RV → Prop) : Prop := match d with
  | .list xs => ∃ bs : List Bool, xs = bs.map PyData.bool ∧ Q (.va (.bool (bs.any id)))
  | _ => False
theorem cd_any (hc : X.calm = true) : CallD X (.builtin "any") .sh (rd1 dAny) where
  ex := ⟨_, cr_any hc, rd1_br fun S O H x d Q hs hO hd q => by
    unfold dAny at q
    split at q
    · obtain ⟨ns, rfl, q⟩ := q
      obtain ⟨a, us, rfl, h1, h2⟩ := hd
      have e := all_bools h2
      subst e
      exact ⟨a, ns, rfl, .inl (.inl (hid_some h1).2), q _ H (Same.refl H) (.bl _)⟩
    · exact q.elim⟩
  mo := rd1_mo fun d Q Q' k q => by
    unfold dAny at q ⊢
    split at q
    · obtain ⟨ns, e, q⟩ := q
      exact ⟨ns, e, k _ q⟩
    · exact q.elim
end DL

set_option Elab.async false
set_option linter.all false
set_option maxRecDepth 100000
set_option maxHeartbeats 4000000
namespace K20
open PySem PySem.Spec PyProof.Rows L2 DL
variable [Tb]
local macro_rules | `(tactic| walk_at "rw") => `(tactic| simp only [d01, d0m, dm0, d10, Rw.toD, rdIn, wds, flatD, List.all_cons, List.all_nil, dw, Bool.true_or, Bool.false_or, Bool.or_false, Bool.or_true, Bool.true_and, Bool.and_true, Bool.false_and, Bool.and_false, Bool.not_true, Bool.not_false, decide_true, decide_false, true_and, and_true, if_true, if_false, Bool.false_eq_true, reduceIte, Nat.zero_add, Nat.reduceAdd, ite_self, wJR, wJL, wJM, wRJ, wRL, wRM, wLJ, wLR, wLM, wMJ, wMR, wML])
local macro_rules | `(tactic| walk_at "st") => `(tactic| simp only [wBo, w2, rdEq2, wNameS, wName, wC, wPart, startD, List.map_cons, List.map_nil, List.cons_append, List.nil_append, getS, AV.sv, rd1, List.length_cons, List.length_nil, List.replicate, endE, frzD, List.set, wOr, wAnd, wNot, wTru, wIs, wIf, wAndV, wOrV, wNotV, wIxC, wNeg, dat_va, dat_fr, sv_va, sv_fr, gtName, gtCons, gtNil, gtTup, wFrz, wBack, wIfS, wAugI, wPar3, wIsN, if_true, if_false, Bool.false_eq_true, Bool.not_true, Bool.not_false, decide_true, decide_false, Nat.sub_zero, Nat.succ_sub_succ_eq_sub, ite_true, ite_false, reduceIte, true_and, and_true, Nat.zero_add, Nat.reduceAdd, qisStrD_str, qisStrD_tup, qisStrD_lst, qisStrD_int, qisStrD_bl, qisStrD_non, qisStrD_dct, qisTupD_str, qisTupD_tup, qisTupD_lst, qisTupD_int, qisTupD_bl, qisTupD_non, qisTupD_dct, qisLstD_str, qisLstD_tup, qisLstD_lst, qisLstD_int, qisLstD_bl, qisLstD_non, qisLstD_dct, qisDctD_str, qisDctD_tup, qisDctD_lst, qisDctD_int, qisDctD_bl, qisDctD_non, qisDctD_dct, qisBooD_str, qisBooD_tup, qisBooD_lst, qisBooD_int, qisBooD_bl, qisBooD_non, qisBooD_dct, qisIntD_str, qisIntD_tup, qisIntD_lst, qisIntD_int, qisIntD_bl, qisIntD_non, qisIntD_dct, qAddI, qAddS, qAddT, qAddL, qInt, qSlT, qSlL, qSlS, qEqI, qEqS, qEqB, qEqN, qEqT, qEqL, qIxT0, qIxT1, qIxT2, qIxL0, qIxL1, qLenT, qLenL, qLenS, qTupT, qTupL, qLstT, qLstL, qIt, qItL, qIntI, qBl, qTrT, qTrL, qTrI, qTrN, qNoN, qNoT, qNoL, qNoI, qNoS])
local macro_rules | `(tactic| walk_at "run") => `(tactic| ((try walk_at "rw"); (try walk_at "st"); (try walk_at "rw")))
local macro_rules | `(tactic| walk_at "dl") => `(tactic| simp only [wBo, w2, rdEq2, dEq, wNameS, wName, wC, startD, List.map_cons, List.map_nil, List.cons_append, List.nil_append, getS, AV.sv, rd1, List.length_cons, List.length_nil, List.replicate, endE, frzD, wBack, List.set, wOr, wAnd, wNot, wTru, wIs, wIf, wAndV, wOrV, wNotV, wIxC, ixC, nthD, dLen, dTuple, dList, dat_va, dat_fr, sv_va, sv_fr, gtName, gtCons, gtNil, gtTup, truD, wFrz, wIfS, if_true, if_false, Bool.false_eq_true, isStrD, isTupD, isLstD, isBooD, isIntD, isDctD, Bool.not_true, Bool.not_false, decide_true, decide_false, Nat.sub_zero, Nat.succ_sub_succ_eq_sub, ite_true, ite_false, reduceIte, true_and, and_true])

def topS (i : Nat) : Stmt := PySem.Challenge.pw_everrows_k20_lots.main.body.getD i (.Pass ⟨0, 0, 0, 0⟩)
abbrev s_is_number : Stmt := topS 1
theorem sc_is_number : FnScope ["value"] ["value"] (defScope s_is_number) := ⟨rfl, rfl, rfl, by decide +kernel, rfl, by decide +kernel, by decide +kernel⟩
abbrev s_is_answer : Stmt := topS 3
theorem sc_is_answer : FnScope ["value", "n"] ["value", "n"] (defScope s_is_answer) := ⟨rfl, rfl, rfl, by decide +kernel, rfl, by decide +kernel, by decide +kernel⟩
abbrev s_are_answers : Stmt := topS 4
theorem sc_are_answers : FnScope ["value", "n", "part"] ["value", "n"] (defScope s_are_answers) := ⟨rfl, rfl, rfl, by decide +kernel, rfl, by decide +kernel, by decide +kernel⟩
abbrev s_ascend : Stmt := topS 5
theorem sc_ascend : FnScope ["things", "one", "other"] ["things"] (defScope s_ascend) := ⟨rfl, rfl, rfl, by decide +kernel, rfl, by decide +kernel, by decide +kernel⟩
abbrev s_lots : Stmt := topS 6
theorem sc_lots : FnScope ["n"] ["n"] (defScope s_lots) := ⟨rfl, rfl, rfl, by decide +kernel, rfl, by decide +kernel, by decide +kernel⟩
abbrev s_lots_within : Stmt := topS 7
theorem sc_lots_within : FnScope ["lot", "found", "s", "one"] ["lot"] (defScope s_lots_within) := ⟨rfl, rfl, rfl, by decide +kernel, rfl, by decide +kernel, by decide +kernel⟩
abbrev s_number_of : Stmt := topS 8
theorem sc_number_of : FnScope ["lot", "s"] ["lot"] (defScope s_number_of) := ⟨rfl, rfl, rfl, by decide +kernel, rfl, by decide +kernel, by decide +kernel⟩
abbrev s_is_lot : Stmt := topS 9
theorem sc_is_lot : FnScope ["value", "n"] ["value", "n"] (defScope s_is_lot) := ⟨rfl, rfl, rfl, by decide +kernel, rfl, by decide +kernel, by decide +kernel⟩
abbrev s_lot_of : Stmt := topS 10
theorem sc_lot_of : FnScope ["answers"] ["answers"] (defScope s_lot_of) := ⟨rfl, rfl, rfl, by decide +kernel, rfl, by decide +kernel, by decide +kernel⟩
abbrev s__law_open_cells : Stmt := topS 12
theorem sc__law_open_cells : FnScope ["_law_script", "_law_stirred", "_law_cell", "_law_cells"] ["_law_script"] (defScope s__law_open_cells) := ⟨rfl, rfl, rfl, by decide +kernel, rfl, by decide +kernel, by decide +kernel⟩
abbrev s__law_pick : Stmt := topS 13
theorem sc__law_pick : FnScope ["_law_source", "_law_most", "_law_cells", "_law_others", "_law_lap", "_law_stirred"] ["_law_source", "_law_most"] (defScope s__law_pick) := ⟨rfl, rfl, rfl, by decide +kernel, rfl, by decide +kernel, by decide +kernel⟩
abbrev s__law_lots : Stmt := topS 14
theorem sc__law_lots : FnScope ["_law_n", "_law_found", "_law_s", "_law_lot_here"] ["_law_n"] (defScope s__law_lots) := ⟨rfl, rfl, rfl, by decide +kernel, rfl, by decide +kernel, by decide +kernel⟩
abbrev s__law_number : Stmt := topS 15
theorem sc__law_number : FnScope ["_law_lot_here", "_law_s"] ["_law_lot_here"] (defScope s__law_number) := ⟨rfl, rfl, rfl, by decide +kernel, rfl, by decide +kernel, by decide +kernel⟩
abbrev s__law_lot : Stmt := topS 16
theorem sc__law_lot : FnScope ["_law_answers", "_law_s"] ["_law_answers"] (defScope s__law_lot) := ⟨rfl, rfl, rfl, by decide +kernel, rfl, by decide +kernel, by decide +kernel⟩
abbrev s__law_any_odd : Stmt := topS 17
theorem sc__law_any_odd : FnScope ["_law_source", "_law_some"] ["_law_source"] (defScope s__law_any_odd) := ⟨rfl, rfl, rfl, by decide +kernel, rfl, by decide +kernel, by decide +kernel⟩
abbrev s__law_bent : Stmt := topS 18
theorem sc__law_bent : FnScope ["_law_source", "_law_value", "_law_deep", "_law_road", "_law_other", "_law_k", "_law_one"] ["_law_source", "_law_value", "_law_deep"] (defScope s__law_bent) := ⟨rfl, rfl, rfl, by decide +kernel, rfl, by decide +kernel, by decide +kernel⟩
abbrev s__law_is_tuple : Stmt := topS 19
theorem sc__law_is_tuple : FnScope ["_law_value", "_law_many", "_law_n", "_law_one"] ["_law_value", "_law_many", "_law_n"] (defScope s__law_is_tuple) := ⟨rfl, rfl, rfl, by decide +kernel, rfl, by decide +kernel, by decide +kernel⟩
abbrev s__law_is_lot : Stmt := topS 20
theorem sc__law_is_lot : FnScope ["_law_value", "_law_n", "_law_k"] ["_law_value", "_law_n"] (defScope s__law_is_lot) := ⟨rfl, rfl, rfl, by decide +kernel, rfl, by decide +kernel, by decide +kernel⟩
abbrev s_law : Stmt := topS 21
theorem sc_law : FnScope ["_law_script", "_law_source", "_law_n", "_law_due", "_law_lap", "_law_told", "_law_lot_here", "_law_some", "_law_shown", "_law_values", "_law_value"] ["_law_script"] (defScope s_law) := ⟨rfl, rfl, rfl, by decide +kernel, rfl, by decide +kernel, by decide +kernel⟩
/-- what stands at the top of the module -/
structure Top (K : PySem.W.Frag) (mg : Str → Option Value) (base : Heap) where
  f_is_number : Addr
  d_is_number : FuncData
  F_is_number : Fun K "is_number" "is_number" s_is_number f_is_number d_is_number
  C_is_number : Cal K mg "is_number" f_is_number d_is_number ["value"]
  f_is_answer : Addr
  d_is_answer : FuncData
  F_is_answer : Fun K "is_answer" "is_answer" s_is_answer f_is_answer d_is_answer
  C_is_answer : Cal K mg "is_answer" f_is_answer d_is_answer ["value", "n"]
  f_are_answers : Addr
  d_are_answers : FuncData
  F_are_answers : Fun K "are_answers" "are_answers" s_are_answers f_are_answers d_are_answers
  C_are_answers : Cal K mg "are_answers" f_are_answers d_are_answers ["value", "n"]
  t_are_answers : Addr
  p_are_answers : Addr
  G_are_answers : GenT mg base d_are_answers t_are_answers p_are_answers
  f_ascend : Addr
  d_ascend : FuncData
  F_ascend : Fun K "ascend" "ascend" s_ascend f_ascend d_ascend
  C_ascend : Cal K mg "ascend" f_ascend d_ascend ["things"]
  t_ascend : Addr
  p_ascend : Addr
  G_ascend : GenT mg base d_ascend t_ascend p_ascend
  f_lots : Addr
  d_lots : FuncData
  F_lots : Fun K "lots" "lots" s_lots f_lots d_lots
  C_lots : Cal K mg "lots" f_lots d_lots ["n"]
  f_lots_within : Addr
  d_lots_within : FuncData
  F_lots_within : Fun K "lots_within" "lots_within" s_lots_within f_lots_within d_lots_within
  C_lots_within : Cal K mg "lots_within" f_lots_within d_lots_within ["lot"]
  f_number_of : Addr
  d_number_of : FuncData
  F_number_of : Fun K "number_of" "number_of" s_number_of f_number_of d_number_of
  C_number_of : Cal K mg "number_of" f_number_of d_number_of ["lot"]
  f_is_lot : Addr
  d_is_lot : FuncData
  F_is_lot : Fun K "is_lot" "is_lot" s_is_lot f_is_lot d_is_lot
  C_is_lot : Cal K mg "is_lot" f_is_lot d_is_lot ["value", "n"]
  f_lot_of : Addr
  d_lot_of : FuncData
  F_lot_of : Fun K "lot_of" "lot_of" s_lot_of f_lot_of d_lot_of
  C_lot_of : Cal K mg "lot_of" f_lot_of d_lot_of ["answers"]
  f__law_open_cells : Addr
  d__law_open_cells : FuncData
  F__law_open_cells : Fun K "_law_open_cells" "_law_open_cells" s__law_open_cells f__law_open_cells d__law_open_cells
  C__law_open_cells : Cal K mg "_law_open_cells" f__law_open_cells d__law_open_cells ["_law_script"]
  f__law_pick : Addr
  d__law_pick : FuncData
  F__law_pick : Fun K "_law_pick" "_law_pick" s__law_pick f__law_pick d__law_pick
  C__law_pick : Cal K mg "_law_pick" f__law_pick d__law_pick ["_law_source", "_law_most"]
  f__law_lots : Addr
  d__law_lots : FuncData
  F__law_lots : Fun K "_law_lots" "_law_lots" s__law_lots f__law_lots d__law_lots
  C__law_lots : Cal K mg "_law_lots" f__law_lots d__law_lots ["_law_n"]
  f__law_number : Addr
  d__law_number : FuncData
  F__law_number : Fun K "_law_number" "_law_number" s__law_number f__law_number d__law_number
  C__law_number : Cal K mg "_law_number" f__law_number d__law_number ["_law_lot_here"]
  f__law_lot : Addr
  d__law_lot : FuncData
  F__law_lot : Fun K "_law_lot" "_law_lot" s__law_lot f__law_lot d__law_lot
  C__law_lot : Cal K mg "_law_lot" f__law_lot d__law_lot ["_law_answers"]
  f__law_any_odd : Addr
  d__law_any_odd : FuncData
  F__law_any_odd : Fun K "_law_any_odd" "_law_any_odd" s__law_any_odd f__law_any_odd d__law_any_odd
  C__law_any_odd : Cal K mg "_law_any_odd" f__law_any_odd d__law_any_odd ["_law_source"]
  f__law_bent : Addr
  d__law_bent : FuncData
  F__law_bent : Fun K "_law_bent" "_law_bent" s__law_bent f__law_bent d__law_bent
  C__law_bent : Cal K mg "_law_bent" f__law_bent d__law_bent ["_law_source", "_law_value", "_law_deep"]
  f__law_is_tuple : Addr
  d__law_is_tuple : FuncData
  F__law_is_tuple : Fun K "_law_is_tuple" "_law_is_tuple" s__law_is_tuple f__law_is_tuple d__law_is_tuple
  C__law_is_tuple : Cal K mg "_law_is_tuple" f__law_is_tuple d__law_is_tuple ["_law_value", "_law_many", "_law_n"]
  f__law_is_lot : Addr
  d__law_is_lot : FuncData
  F__law_is_lot : Fun K "_law_is_lot" "_law_is_lot" s__law_is_lot f__law_is_lot d__law_is_lot
  C__law_is_lot : Cal K mg "_law_is_lot" f__law_is_lot d__law_is_lot ["_law_value", "_law_n"]
  f_law : Addr
  d_law : FuncData
  F_law : Fun K "law" "law" s_law f_law d_law
  b_abs : mg "abs" = none
  b_all : mg "all" = none
  b_any : mg "any" = none
  b_bool : mg "bool" = none
  b_int : mg "int" = none
  b_isinstance : mg "isinstance" = none
  b_len : mg "len" = none
  b_list : mg "list" = none
  b_range : mg "range" = none
  b_repr : mg "repr" = none
  b_set : mg "set" = none
  b_sorted : mg "sorted" = none
  b_sum : mg "sum" = none
  b_tuple : mg "tuple" = none
  b_zip : mg "zip" = none

section
variable {P : Program} {w : World} {K : PySem.W.Frag} {mg : Str → Option Value} {base : Heap}
theorem ok_open {f : Addr} {fd : FuncData} (F : Fun K "_law_open_cells" "_law_open_cells" s__law_open_cells f fd) (b_int : mg "int" = none) (b_abs : mg "abs" = none) :
    FnG P w K mg base CX0 1 f fd ["_law_script"] (spOpen K) := by
  refine fn_body F sc__law_open_cells (fun vs H Q E ⟨a, ns, e, _⟩ => by rw [e]; rfl) fun cdv A outer s H vs Q E hr hsp => ?_
  obtain ⟨a, ns, rfl, hS, hlen, q⟩ := hsp
  have nd := sc__law_open_cells.nd
  refine ⟨_, (pss_cons (ps_set (i := 1) nd rfl (.inl rfl) pe_int)
    (pss_cons (ps_for PassesOwn.never rfl (pi_list (pv 0)) (pg_name (i := 2) nd rfl (.inl rfl))
      (pss_one (ps_set (i := 1) nd rfl (.inl rfl) (pe_op op_mod (pe_callTy call_int1 (by rfl) b_int (by decide +kernel) (pa_cons (pe_op op_add (pe_op op_add (pe_op op_mul (pv 1) pe_int) (pe_op op_mul (pv 2) pe_int)) pe_int) pa_nil)) pe_int))))
    (pss_cons (ps_setLc (i := 3) (own := [("_law_cell", 2)]) (g := gName 2) (tt := tYes) rfl nd rfl rfl (sw_true rfl rfl rfl (by decide +kernel)) (pi_list (pv 0))
      (blkOk_by (N := ["_law_script", "_law_stirred", "_law_cell", "_law_cells"]) (sc := defScope s__law_open_cells) (by decide +kernel))
      (fun _ _ _ _ _ => pg_name (i := 2) nd rfl (.inl rfl)) (fun _ _ _ _ _ => pts_nil) (fun _ _ _ _ _ => pe_callB call_abs (by rfl) b_abs (by decide +kernel) (pa_cons (pv 2) pa_nil)))
    (pss_one (ps_ret (pe_disp (pps_cons pe_str (pe_revL (pv 3)) (pps_cons pe_str pe_int (pps_cons pe_str (pv 1) (pps_cons pe_str pe_int pps_nil)))) (by decide) rfl (by decide) (by decide)))))) :
      PSs (cxOf CX0 P w K mg base ["_law_script", "_law_stirred", "_law_cell", "_law_cells"] "_law_open_cells" (defScope s__law_open_cells) f cdv A outer s H E).nox _ _).nox, ?_⟩
  refine ⟨_, rfl, a, rfl, ⟨_, hS⟩, for_list (xs := ns.map V.int) (fun i σ H3 => ∃ (z : Int) (y : Option V), σ = [some (.ref a), some (.int z), y, none] ∧ H3 = H) ⟨11, none, rfl, rfl⟩ (fun i σ H3 _ ⟨z, y, _, e⟩ => by rw [e]; exact hS) (fun i x σ H3 hx ⟨z, y, e1, e2⟩ => ?_) (fun σ H3 ⟨z, y, e1, e2⟩ => ?_)⟩
  · subst e1 e2
    rw [List.getElem?_map] at hx
    cases g : ns[i]? with
    | none => rw [g] at hx; cases hx
    | some n =>
      rw [g] at hx
      cases hx
      refine ⟨_, rfl, _, _, rfl, rfl, .inr (by decide), _, rfl, _, _, rfl, rfl, .inr (by decide), _, _, rfl, rfl, _, _, rfl, rfl, .inl ⟨_, rfl, _, _, rfl, rfl, (by show (0 : Int) < 2147483629; decide), _, _, rfl, rfl⟩⟩
  · subst e1 e2
    refine ⟨_, rfl, a, rfl, ⟨_, hS⟩, fun D hD => ?_⟩
    refine lc_list (xs := ns.map V.int) (fun i H4 => ∃ ms : List Int, ms.length = i ∧ Same H3 H4 ∧ H4 D = some (.lst (ms.map V.int))) ⟨[], rfl, same_new hD, upd_same⟩ (fun i H4 _ ⟨ms, _, sm, _⟩ => Same.seq sm hS) (fun i x H4 hx ⟨ms, em, sm, ed⟩ => ?_) (fun H4 ⟨ms, em, sm, ed⟩ => ?_)
    · rw [List.getElem?_map] at hx
      cases g : ns[i]? with
      | none => rw [g] at hx; cases hx
      | some n =>
        rw [g] at hx
        cases hx
        refine ⟨rfl, ?_⟩
        simp only [tYes, if_true]
        have hi : i < ns.length := (List.getElem?_eq_some_iff.mp g).1
        refine ⟨_, rfl, n, rfl, _, ed, by rw [List.length_map, sizeLine_eq]; omega, ms ++ [if n < 0 then -n else n], by rw [List.length_append, em]; rfl, fun b o e => ?_, ?_⟩
        · rw [upd_ne (ne_of_none e hD)]; exact sm _ _ e
        · rw [upd_same, List.map_append]; rfl
    · -- the dict
      intro p hp
      have npD : p ≠ D := fun e => by rw [e, ed] at hp; cases hp
      refine ⟨_, rfl, D, _, rfl, .inl (.inl (by rw [upd_ne (Ne.symm npD)]; exact ed)), fun R hR => ⟨_, rfl, ?_⟩⟩
      have npR : p ≠ R := fun e => by rw [← e, upd_same] at hR; cases hR
      refine ⟨by rw [upd_ne npR, upd_same], [(kyC, .ref R), (kyL, .int 1), (kyM, .int z), (kyT, .int 0)], rfl, (by show 4 ≤ 15; decide), ?_⟩
      rw [merge4]
      have hpH : H3 p = none := sm.free hp
      have hRH : H3 R = none := by
        have : H4 R = none := by rw [upd_ne (Ne.symm npR)] at hR; exact hR
        exact sm.free this
      refine q _ p R (fun b o e => ?_) hpH hRH ⟨ms.reverse, 1, z, 0, upd_same, ?_, ?_⟩
      · rw [upd_ne (ne_of_none e hpH), upd_ne (ne_of_none e hRH), upd_ne (ne_of_none e hpH)]
        exact sm _ _ e
      · rw [upd_ne (Ne.symm npR), upd_same, List.map_reverse]
      · rw [List.length_reverse, em, List.length_map]; exact hlen
theorem ok_pick {f : Addr} {fd : FuncData} (F : Fun K "_law_pick" "_law_pick" s__law_pick f fd) (b_int : mg "int" = none) (b_len : mg "len" = none) :
    FnG P w K mg base CX0 1 f fd ["_law_source", "_law_most"] (PSp K 2 fsPick) := by
  refine fn_body F sc__law_pick (fun vs H Q E ⟨S', Oc, as, h1, h2, h3, h4, h5, h6⟩ => h4.len.trans h5) fun cdv A outer s H vs Q E hr hsp => ?_
  have nd := sc__law_pick.nd
  have hu := hu_of hr.rm
  obtain ⟨S', Oc, as, h1, h2, h3, h4, h5, h6⟩ := hsp
  refine ⟨_, (pss_cons (ps_if (pt_cmpR op_lt (pv 1) pe_int (nomark _)) (pss_one (ps_ret pe_int)) pss_nil)
    (pss_cons (ps_set (i := 2) nd rfl (.inl rfl) (pe_dget hu (pv 0) pe_str (fun _ _ => rfl)))
    (pss_cons (ps_while PassesOwn.never (PW.pt (pw_and (pt_cmpR op_lt (pe_dget hu (pv 0) pe_str (fun _ _ => rfl)) pe_int (nomark _)) (pw_and1 (pt_cmpR op_gt (pe_callB call_len_seq (by rfl) b_len PySem.boot_len (pa_cons (pv 2) pa_nil)) pe_int (nomark _)))))
      (pss_one (ps_dput hu (pv 0) pe_str (pe_bm0 PySem.F.plainAttrs_list PySem.F.slot_list_pop PySem.F.type_list_pop mt_pop (pv 2)) rfl)))
    (pss_cons (ps_set (i := 3) nd rfl (.inl rfl) (pe_dget hu (pv 0) pe_str (fun _ _ => rfl)))
    (pss_cons (ps_if (pt_cmpR op_gt (pv 3) pe_int (nomark _)) (pss_cons (ps_dput hu (pv 0) pe_str (pe_op op_fdivW (pv 3) (pv 1)) rfl)
      (pss_one (ps_ret (pe_op op_mod (pe_callTy call_int1 (by rfl) b_int (by decide +kernel) (pa_cons (pv 3) pa_nil)) (pv 1))))) pss_nil)
    (pss_cons (ps_dput hu (pv 0) pe_str (pe_op op_add (pe_dget hu (pv 0) pe_str (fun _ _ => rfl)) pe_int) rfl)
    (pss_cons (ps_set (i := 4) nd rfl (.inl rfl) (pe_dget hu (pv 0) pe_str (fun _ _ => rfl)))
    (pss_cons (ps_set (i := 5) nd rfl (.inl rfl) (pe_op op_mod (pe_callTy call_int1 (by rfl) b_int (by decide +kernel) (pa_cons (pe_op op_add (pe_dget hu (pv 0) pe_str (fun _ _ => rfl)) (pe_op op_mul (pv 4) pe_int)) pa_nil)) pe_int))
    (pss_cons (ps_set (i := 5) nd rfl (.inl rfl) (pe_op op_mod (pe_callTy call_int1 (by rfl) b_int (by decide +kernel) (pa_cons (pe_op op_add (pe_op op_mul (pv 5) (pv 5)) (pe_op op_mul (pv 4) pe_int)) pa_nil)) pe_int))
    (pss_one (ps_ret (pe_op op_mod (pe_callTy call_int1 (by rfl) b_int (by decide +kernel) (pa_cons (pe_op op_fdiv (pv 5) pe_int) pa_nil)) (pv 1)))))))))))) :
      PSs (cxOf CX0 P w K mg base ["_law_source", "_law_most", "_law_cells", "_law_others", "_law_lap", "_law_stirred"] "_law_pick" (defScope s__law_pick) f cdv A outer s H E).nox _ _).nox, ?_⟩
  unfold fsPick at h6
  split at h6
  · rename_i m
    obtain ⟨hm, q⟩ := h6
    cases h4 with
    | @so a c _ _ eS t =>
    cases t with
    | va dm t =>
    cases t
    cases dm
    have noS : ∀ {b : Addr} {o : HO} {H1 : Hp}, b ∉ [a, c] → upd H1 a o b = H1 b := fun {b o H1} n => upd_ne fun z => n (by rw [z]; exact List.mem_cons_self)
    have noC : ∀ {b : Addr} {o : HO} {H1 : Hp}, b ∉ [a, c] → upd H1 c o b = H1 b := fun {b o H1} n => upd_ne fun z => n (by rw [z]; exact List.mem_cons_of_mem _ List.mem_cons_self)
    obtain ⟨cells0, l0, m0, t0, e1, e2, e3⟩ : SrcAt H a c := by
      rcases h1.1 with z | ⟨a', c', z, sa⟩
      · rw [eS] at z
        have := congrArg List.length z
        simp only [List.length_cons] at this
        omega
      · rw [eS] at z; cases z; exact sa
    have ac : a ≠ c := ne_of e1 e2 (by intro z; cases z)
    -- the end of each way
    have fin : ∀ (H' : Hp) (r : Int), (∀ b o, b ∉ [a, c] → H b = some o → H' b = some o) → SrcAt H' a c → 0 ≤ r → (r < m ∨ r = 0) → Q (.int r) H' := fun H' r st sa r0 r1 =>
      q r r0 r1 _ H' ⟨fun b o n e => st b o (fun m => n (by
        rw [eS]
        rcases List.mem_cons.mp m with z | z
        · rw [z]; exact List.mem_cons_self
        · rw [List.mem_singleton.mp z]; exact List.mem_cons_of_mem _ List.mem_cons_self)) e, fun _ => ⟨.inr ⟨a, c, eS, sa⟩, fun P m => by
        obtain ⟨ps, e, ok⟩ := h1.2 P m
        refine ⟨ps, st P _ (fun z => ?_) e, ok⟩
        rcases List.mem_cons.mp z with z | z
        · rw [z, e1] at e; cases e
        · rw [List.mem_singleton.mp z, e2] at e; cases e⟩⟩ (.int r)
    refine ⟨_, rfl, _, _, rfl, rfl, _, rfl, ite2 (fun hlt => ?_) (fun hge => ?_)⟩
    · exact fin H 0 (fun _ _ _ e => e) ⟨cells0, l0, m0, t0, e1, e2, e3⟩ (Int.le_refl _) (.inr rfl)
    · have m2 : 2 ≤ m := by
        have : ¬ m < 2 := fun z => hge (decide_eq_true z)
        omega
      have hb : m.natAbs < 2 ^ 60 := by
        have e2 : (2 : Nat) ^ 60 = 1152921504606846976 := by decide
        omega
      refine ⟨_, rfl, a, _, rfl, g4_cells e1, ?_⟩
      refine ⟨fun k σ H' => ∃ (cells : List Int) (l : Int), k = cells.length ∧ σ = [some (.ref a), some (.int m), some (.ref c), none, none, none] ∧ H' a = some (.dK (kvs4 c l m0 t0)) ∧
        H' c = some (.lst (cells.map V.int)) ∧ cells.length ≤ 63 ∧ ∀ b o, b ∉ [a, c] → H b = some o → H' b = some o, ⟨_, cells0, l0, rfl, rfl, e1, e2, e3, fun _ _ _ e => e⟩, ?_⟩
      rintro k σ H' ⟨cells, l, rfl, rfl, f1, f2, f3, f4⟩
      have here : SrcAt H' a c := ⟨cells, l, m0, t0, f1, f2, f3⟩
      have upd_st : ∀ {o : HO}, ∀ b u, b ∉ [a, c] → H b = some u → upd H' a o b = some u := fun {o} b u n e => by rw [noS n]; exact f4 b u n e
      have upd_c : ∀ {o : HO}, upd H' a o c = some (.lst (cells.map V.int)) := fun {o} => by rw [upd_ne (Ne.symm ac)]; exact f2
      refine ⟨_, rfl, a, _, rfl, g4_left f1, _, _, rfl, rfl, _, rfl, ite2 (fun hlt => ?_) (fun hge2 => ?_)⟩
      · refine ⟨_, rfl, c, _, rfl, .inl (.inl (.inl f2)), _, _, rfl, rfl, _, rfl, ite2 (fun hpos => ?_) (fun hno => ?_)⟩
        · have np : 0 < cells.length := by
            have : (0 : Int) < ((cells.map V.int).length : Int) := of_decide_eq_true hpos
            rw [List.length_map] at this
            omega
          have lt1 : cells.length - 1 < cells.length := by omega
          have last : (cells.map V.int)[(cells.map V.int).length - 1]? = some (.int cells[cells.length - 1]) := by
            rw [List.length_map, List.getElem?_map, List.getElem?_eq_getElem lt1]
            rfl
          refine ⟨fun σ1 H1 => ∃ (cs : List Int) (l : Int), cs.length < cells.length ∧ σ1 = [some (.ref a), some (.int m), some (.ref c), none, none, none] ∧ H1 a = some (.dK (kvs4 c l m0 t0)) ∧
            H1 c = some (.lst (cs.map V.int)) ∧ cs.length ≤ 63 ∧ ∀ b o, b ∉ [a, c] → H b = some o → H1 b = some o, fun σ1 H1 ⟨cs, l, g1, g2, g3, g4, g5, g6⟩ => ⟨_, g1, cs, l, rfl, g2, g3, g4, g5, g6⟩, ?_⟩
          refine ⟨_, rfl, .inl ⟨rfl, _, .inl (.inl f2)⟩, c, _, _, rfl, rfl, f2, last, ?_⟩
          have f1' : ∀ {o : HO}, upd H' c o a = some (.dK (kvs4 c l m0 t0)) := fun {o} => by rw [upd_ne ac]; exact f1
          refine ⟨_, rfl, a, _, rfl, p4_left f1', ?_⟩
          refine ⟨cells.dropLast, _, by rw [List.length_dropLast]; omega, rfl, upd_same, ?_, by rw [List.length_dropLast]; omega, fun b u n e => ?_⟩
          · rw [upd_ne (Ne.symm ac), upd_same, List.map_dropLast]
          · rw [noS n, noC n]
            exact f4 b u n e
        · refine ⟨_, rfl, a, _, rfl, g4_left f1, ?_⟩
          refine ⟨_, rfl, _, _, rfl, rfl, _, rfl, ite2 (fun hgt => ?_) (fun hle => ?_)⟩
          · have l1 : 1 < l := of_decide_eq_true hgt
            refine ⟨_, rfl, _, rfl, _, _, rfl, rfl, wide_div (b := 60) (by omega) hb (by decide) (by decide), _, rfl, a, _, rfl, p4_left f1, ?_⟩
            refine ⟨_, rfl, .inl ⟨_, rfl, _, rfl, _, _, rfl, rfl, (by show 0 < m; omega), ?_⟩⟩
            exact fin _ _ upd_st ⟨cells, _, _, _, upd_same, upd_c, f3⟩ (Int.emod_nonneg _ (by omega)) (.inl (Int.emod_lt_of_pos _ (by omega)))
          · refine ⟨_, rfl, a, _, rfl, g4_turn f1, _, _, rfl, rfl, _, rfl, a, _, rfl, p4_turn f1, ?_⟩
            refine ⟨_, rfl, a, _, rfl, g4_turn upd_same, ?_⟩
            refine ⟨_, rfl, a, _, rfl, g4_mixed upd_same, _, rfl, _, _, rfl, rfl, .inr (by decide), _, _, rfl, rfl, .inl ⟨_, rfl, _, _, rfl, rfl, (by show (0 : Int) < 998244353; decide), ?_⟩⟩
            have b1 := Int.emod_nonneg (m0 + (t0 + 1) * 104729) (show (998244353 : Int) ≠ 0 by decide)
            have b2 := Int.emod_lt_of_pos (m0 + (t0 + 1) * 104729) (show (0 : Int) < 998244353 by decide)
            refine ⟨_, rfl, _, rfl, _, _, rfl, rfl, .inl ⟨by omega, by omega⟩, _, rfl, _, _, rfl, rfl, .inr (by decide), _, _, rfl, rfl, .inl ⟨_, rfl, _, _, rfl, rfl, (by show (0 : Int) < 2147483647; decide), ?_⟩⟩
            refine ⟨_, rfl, _, _, rfl, rfl, ⟨by decide, by decide⟩, .inl ⟨_, rfl, _, rfl, _, _, rfl, rfl, (by show 0 < m; omega), ?_⟩⟩
            exact fin _ _ upd_st ⟨cells, _, _, _, upd_same, upd_c, f3⟩ (Int.emod_nonneg _ (by omega)) (.inl (Int.emod_lt_of_pos _ (by omega)))
      · refine ⟨_, rfl, a, _, rfl, g4_left f1, ?_⟩
        refine ⟨_, rfl, _, _, rfl, rfl, _, rfl, ite2 (fun hgt => ?_) (fun hle => ?_)⟩
        · have l1 : 1 < l := of_decide_eq_true hgt
          refine ⟨_, rfl, _, rfl, _, _, rfl, rfl, wide_div (b := 60) (by omega) hb (by decide) (by decide), _, rfl, a, _, rfl, p4_left f1, ?_⟩
          refine ⟨_, rfl, .inl ⟨_, rfl, _, rfl, _, _, rfl, rfl, (by show 0 < m; omega), ?_⟩⟩
          exact fin _ _ upd_st ⟨cells, _, _, _, upd_same, upd_c, f3⟩ (Int.emod_nonneg _ (by omega)) (.inl (Int.emod_lt_of_pos _ (by omega)))
        · refine ⟨_, rfl, a, _, rfl, g4_turn f1, _, _, rfl, rfl, _, rfl, a, _, rfl, p4_turn f1, ?_⟩
          refine ⟨_, rfl, a, _, rfl, g4_turn upd_same, ?_⟩
          refine ⟨_, rfl, a, _, rfl, g4_mixed upd_same, _, rfl, _, _, rfl, rfl, .inr (by decide), _, _, rfl, rfl, .inl ⟨_, rfl, _, _, rfl, rfl, (by show (0 : Int) < 998244353; decide), ?_⟩⟩
          have b1 := Int.emod_nonneg (m0 + (t0 + 1) * 104729) (show (998244353 : Int) ≠ 0 by decide)
          have b2 := Int.emod_lt_of_pos (m0 + (t0 + 1) * 104729) (show (0 : Int) < 998244353 by decide)
          refine ⟨_, rfl, _, rfl, _, _, rfl, rfl, .inl ⟨by omega, by omega⟩, _, rfl, _, _, rfl, rfl, .inr (by decide), _, _, rfl, rfl, .inl ⟨_, rfl, _, _, rfl, rfl, (by show (0 : Int) < 2147483647; decide), ?_⟩⟩
          refine ⟨_, rfl, _, _, rfl, rfl, ⟨by decide, by decide⟩, .inl ⟨_, rfl, _, rfl, _, _, rfl, rfl, (by show 0 < m; omega), ?_⟩⟩
          exact fin _ _ upd_st ⟨cells, _, _, _, upd_same, upd_c, f3⟩ (Int.emod_nonneg _ (by omega)) (.inl (Int.emod_lt_of_pos _ (by omega)))
  · exact h6.elim
end

section
variable {P : Program} {w : World} {K : PySem.W.Frag} {mg : Str → Option Value} {base : Heap}
theorem ok__law_open_cells (T : Top K mg base) : FnG P w K mg base CX0 1 T.f__law_open_cells T.d__law_open_cells ["_law_script"] (spOpen K) := ok_open T.F__law_open_cells T.b_int T.b_abs
theorem ok__law_pick (T : Top K mg base) : FnG P w K mg base CX0 1 T.f__law_pick T.d__law_pick ["_law_source", "_law_most"] (PSp K 2 fsPick) := ok_pick T.F__law_pick T.b_int T.b_len
end
theorem mo__law_pick : MoF fsPick := moPick
end K20

set_option Elab.async false
set_option linter.all false
set_option maxRecDepth 100000
set_option maxHeartbeats 4000000
namespace K20
open PySem PySem.Spec PyProof.Rows L2 DL
variable [Tb]
local macro_rules | `(tactic| walk_at "rw") => `(tactic| simp only [d01, d0m, dm0, d10, Rw.toD, rdIn, wds, flatD, List.all_cons, List.all_nil, dw, Bool.true_or, Bool.false_or, Bool.or_false, Bool.or_true, Bool.true_and, Bool.and_true, Bool.false_and, Bool.and_false, Bool.not_true, Bool.not_false, decide_true, decide_false, true_and, and_true, if_true, if_false, Bool.false_eq_true, reduceIte, Nat.zero_add, Nat.reduceAdd, ite_self, wJR, wJL, wJM, wRJ, wRL, wRM, wLJ, wLR, wLM, wMJ, wMR, wML])
local macro_rules | `(tactic| walk_at "st") => `(tactic| simp only [wBo, w2, rdEq2, wNameS, wName, wC, wPart, startD, List.map_cons, List.map_nil, List.cons_append, List.nil_append, getS, AV.sv, rd1, List.length_cons, List.length_nil, List.replicate, endE, frzD, List.set, wOr, wAnd, wNot, wTru, wIs, wIf, wAndV, wOrV, wNotV, wIxC, wNeg, dat_va, dat_fr, sv_va, sv_fr, gtName, gtCons, gtNil, gtTup, wFrz, wBack, wIfS, wAugI, wPar3, wIsN, if_true, if_false, Bool.false_eq_true, Bool.not_true, Bool.not_false, decide_true, decide_false, Nat.sub_zero, Nat.succ_sub_succ_eq_sub, ite_true, ite_false, reduceIte, true_and, and_true, Nat.zero_add, Nat.reduceAdd, qisStrD_str, qisStrD_tup, qisStrD_lst, qisStrD_int, qisStrD_bl, qisStrD_non, qisStrD_dct, qisTupD_str, qisTupD_tup, qisTupD_lst, qisTupD_int, qisTupD_bl, qisTupD_non, qisTupD_dct, qisLstD_str, qisLstD_tup, qisLstD_lst, qisLstD_int, qisLstD_bl, qisLstD_non, qisLstD_dct, qisDctD_str, qisDctD_tup, qisDctD_lst, qisDctD_int, qisDctD_bl, qisDctD_non, qisDctD_dct, qisBooD_str, qisBooD_tup, qisBooD_lst, qisBooD_int, qisBooD_bl, qisBooD_non, qisBooD_dct, qisIntD_str, qisIntD_tup, qisIntD_lst, qisIntD_int, qisIntD_bl, qisIntD_non, qisIntD_dct, qAddI, qAddS, qAddT, qAddL, qInt, qSlT, qSlL, qSlS, qEqI, qEqS, qEqB, qEqN, qEqT, qEqL, qIxT0, qIxT1, qIxT2, qIxL0, qIxL1, qLenT, qLenL, qLenS, qTupT, qTupL, qLstT, qLstL, qIt, qItL, qIntI, qBl, qTrT, qTrL, qTrI, qTrN, qNoN, qNoT, qNoL, qNoI, qNoS])
local macro_rules | `(tactic| walk_at "run") => `(tactic| ((try walk_at "rw"); (try walk_at "st"); (try walk_at "rw")))
local macro_rules | `(tactic| walk_at "dl") => `(tactic| simp only [wBo, w2, rdEq2, dEq, wNameS, wName, wC, startD, List.map_cons, List.map_nil, List.cons_append, List.nil_append, getS, AV.sv, rd1, List.length_cons, List.length_nil, List.replicate, endE, frzD, wBack, List.set, wOr, wAnd, wNot, wTru, wIs, wIf, wAndV, wOrV, wNotV, wIxC, ixC, nthD, dLen, dTuple, dList, dat_va, dat_fr, sv_va, sv_fr, gtName, gtCons, gtNil, gtTup, truD, wFrz, wIfS, if_true, if_false, Bool.false_eq_true, isStrD, isTupD, isLstD, isBooD, isIntD, isDctD, Bool.not_true, Bool.not_false, decide_true, decide_false, Nat.sub_zero, Nat.succ_sub_succ_eq_sub, ite_true, ite_false, reduceIte, true_and, and_true])

def numD : PyData → Bool
  | .int _ => true
  | _ => false
section
variable {P : Program} {w : World} {K : PySem.W.Frag} {mg : Str → Option Value} {base : Heap}
theorem q_is_number (T : Top K mg base) (B : DL.Kept) (D : Nat) (d : PyData) (u : Value) (M : L2.Mod K mg base) (hB : ∀ b o, base.get? b = some o → B b o) (hD : D < recursionLimit) (kd : Knd B u d) (_ : True) :
    QFn P w B D T.f_is_number [u] (· = .bool (numD d)) := by
  refine qfn_of T.F_is_number sc_is_number T.C_is_number.hb M hB rfl hD rfl fun L cdv => ?_
  have qv : QEnv (envOfC "is_number" (defScope s_is_number) L T.f_is_number cdv) := ⟨rfl, rfl, rfl⟩
  obtain ⟨x, y, e1, e2, e3⟩ : ∃ x y : Bool, kitB (tyN d) "int" = some x ∧ kitB (tyN d) "bool" = some y ∧ numD d = (x && !y) := by
    cases d with
    | none => exact ⟨false, false, (by decide +kernel : kitB "NoneType" "int" = some false), (by decide +kernel : kitB "NoneType" "bool" = some false), rfl⟩
    | bool b => exact ⟨true, true, (by decide +kernel : kitB "bool" "int" = some true), (by decide +kernel : kitB "bool" "bool" = some true), rfl⟩
    | int i => exact ⟨true, false, (by decide +kernel : kitB "int" "int" = some true), (by decide +kernel : kitB "int" "bool" = some false), rfl⟩
    | str x => exact ⟨false, false, (by decide +kernel : kitB "str" "int" = some false), (by decide +kernel : kitB "str" "bool" = some false), rfl⟩
    | list ds => exact ⟨false, false, (by decide +kernel : kitB "list" "int" = some false), (by decide +kernel : kitB "list" "bool" = some false), rfl⟩
    | tuple ds => exact ⟨false, false, (by decide +kernel : kitB "tuple" "int" = some false), (by decide +kernel : kitB "tuple" "bool" = some false), rfl⟩
    | dict ds => exact ⟨false, false, (by decide +kernel : kitB "dict" "int" = some false), (by decide +kernel : kitB "dict" "bool" = some false), rfl⟩
  exact qe_mono (qe_and (qe_isi qv M hB (qe_loc qv rfl rfl) kd e1 rfl T.b_isinstance boot_isinstance rfl T.b_int (by decide +kernel))
    (fun _ => qe_one (qe_not (qe_isi qv M hB (qe_loc qv rfl rfl) kd e2 rfl T.b_isinstance boot_isinstance rfl T.b_bool (by decide +kernel))))) fun v z => by rw [z, e3]
end
def ansD : PyData → PyData → Bool
  | .int n, .int i => decide (0 ≤ i) && decide (i < n)
  | _, _ => false
section
variable {P : Program} {w : World} {K : PySem.W.Frag} {mg : Str → Option Value} {base : Heap}
theorem q_is_answer (T : Top K mg base) (B : DL.Kept) (D : Nat) (d e : PyData) (u ue : Value) (M : L2.Mod K mg base) (hB : ∀ b o, base.get? b = some o → B b o) (hD1 : D + 1 < recursionLimit) (kd : Knd B u d) (ke : Knd B ue e) (hok : ∃ n, e = .int n) :
    QFn P w B D T.f_is_answer [u, ue] (· = .bool (ansD e d)) := by
  obtain ⟨n, rfl⟩ := hok
  have hD : D < recursionLimit := by omega
  refine qfn_of T.F_is_answer sc_is_answer T.C_is_answer.hb M hB rfl hD rfl fun L cdv => ?_
  have qv : QEnv (envOfC "is_answer" (defScope s_is_answer) L T.f_is_answer cdv) := ⟨rfl, rfl, rfl⟩
  obtain ⟨t, rfl⟩ := (show ∃ t, ue = .int n t from ke)
  have e0 : ansD (.int n) d = (numD d && ansD (.int n) d) := by cases d <;> rfl
  refine qe_mono (qe_and (y := ansD (.int n) d) (qe_call1 qv M hB (qe_loc qv rfl rfl) (q_is_number T B (D + 1) d u M hB hD1 kd trivial) rfl T.C_is_number.hm T.C_is_number.hk) (fun hn => qe_one ?_)) fun v z => by rw [z, ← e0]
  cases d with
  | int i => exact qe_chain0 (qe_mono (qe_loc qv rfl rfl) fun v e => by subst e; exact kd) (qe_mono (qe_loc qv rfl rfl) fun v e => ⟨t, e⟩)
  | _ => cases hn
end
end K20

set_option Elab.async false
set_option linter.all false
set_option maxRecDepth 100000
set_option maxHeartbeats 400000
namespace K20
open PySem PySem.Spec PyProof.Rows L2 DL
variable [Tb]
local macro_rules | `(tactic| walk_at "rw") => `(tactic| simp only [d01, d0m, dm0, d10, Rw.toD, rdIn, wds, flatD, List.all_cons, List.all_nil, dw, Bool.true_or, Bool.false_or, Bool.or_false, Bool.or_true, Bool.true_and, Bool.and_true, Bool.false_and, Bool.and_false, Bool.not_true, Bool.not_false, decide_true, decide_false, true_and, and_true, if_true, if_false, Bool.false_eq_true, reduceIte, Nat.zero_add, Nat.reduceAdd, ite_self, wJR, wJL, wJM, wRJ, wRL, wRM, wLJ, wLR, wLM, wMJ, wMR, wML])
local macro_rules | `(tactic| walk_at "st") => `(tactic| simp only [wBo, w2, rdEq2, wNameS, wName, wC, wPart, startD, List.map_cons, List.map_nil, List.cons_append, List.nil_append, getS, AV.sv, rd1, List.length_cons, List.length_nil, List.replicate, endE, frzD, List.set, wOr, wAnd, wNot, wTru, wIs, wIf, wAndV, wOrV, wNotV, wIxC, wNeg, dat_va, dat_fr, sv_va, sv_fr, gtName, gtCons, gtNil, gtTup, wFrz, wBack, wIfS, wAugI, wPar3, wIsN, if_true, if_false, Bool.false_eq_true, Bool.not_true, Bool.not_false, decide_true, decide_false, Nat.sub_zero, Nat.succ_sub_succ_eq_sub, ite_true, ite_false, reduceIte, true_and, and_true, Nat.zero_add, Nat.reduceAdd, qisStrD_str, qisStrD_tup, qisStrD_lst, qisStrD_int, qisStrD_bl, qisStrD_non, qisStrD_dct, qisTupD_str, qisTupD_tup, qisTupD_lst, qisTupD_int, qisTupD_bl, qisTupD_non, qisTupD_dct, qisLstD_str, qisLstD_tup, qisLstD_lst, qisLstD_int, qisLstD_bl, qisLstD_non, qisLstD_dct, qisDctD_str, qisDctD_tup, qisDctD_lst, qisDctD_int, qisDctD_bl, qisDctD_non, qisDctD_dct, qisBooD_str, qisBooD_tup, qisBooD_lst, qisBooD_int, qisBooD_bl, qisBooD_non, qisBooD_dct, qisIntD_str, qisIntD_tup, qisIntD_lst, qisIntD_int, qisIntD_bl, qisIntD_non, qisIntD_dct, qAddI, qAddS, qAddT, qAddL, qInt, qSlT, qSlL, qSlS, qEqI, qEqS, qEqB, qEqN, qEqT, qEqL, qIxT0, qIxT1, qIxT2, qIxL0, qIxL1, qLenT, qLenL, qLenS, qTupT, qTupL, qLstT, qLstL, qIt, qItL, qIntI, qBl, qTrT, qTrL, qTrI, qTrN, qNoN, qNoT, qNoL, qNoI, qNoS])
local macro_rules | `(tactic| walk_at "run") => `(tactic| ((try walk_at "rw"); (try walk_at "st"); (try walk_at "rw")))
local macro_rules | `(tactic| walk_at "dl") => `(tactic| simp only [wBo, w2, rdEq2, dEq, wNameS, wName, wC, startD, List.map_cons, List.map_nil, List.cons_append, List.nil_append, getS, AV.sv, rd1, List.length_cons, List.length_nil, List.replicate, endE, frzD, wBack, List.set, wOr, wAnd, wNot, wTru, wIs, wIf, wAndV, wOrV, wNotV, wIxC, ixC, nthD, dLen, dTuple, dList, dat_va, dat_fr, sv_va, sv_fr, gtName, gtCons, gtNil, gtTup, truD, wFrz, wIfS, if_true, if_false, Bool.false_eq_true, isStrD, isTupD, isLstD, isBooD, isIntD, isDctD, Bool.not_true, Bool.not_false, decide_true, decide_false, Nat.sub_zero, Nat.succ_sub_succ_eq_sub, ite_true, ite_false, reduceIte, true_and, and_true])

def isTup : PyData → Bool
  | .tuple _ => true
  | _ => false
def ansA (n : Int) : PyData → Bool
  | .tuple ds => ds.all (ansD (.int n))
  | _ => false
def fs_are_answers : FSp := fun as Q => ∃ (d : PyData) (n : Int), as = [.va d, .va (.int n)] ∧ Q (.va (.bool (ansA n d)))
theorem mo_are_answers : MoF fs_are_answers := fun as Q Q' k ⟨d, n, h1, h2⟩ => ⟨d, n, h1, k _ h2⟩
section
variable {P : Program} {w : World} {K : PySem.W.Frag} {mg : Str → Option Value} {base : Heap}
theorem ok_are_answers (T : Top K mg base) : FnG P w K mg base CX0 (6) T.f_are_answers T.d_are_answers ["value", "n"] (PSp K 2 (fs_are_answers)) := by
  refine fn_dataC T.F_are_answers sc_are_answers (fun cdv hcd A outer s H E hr => (evb_one (evs_ret (evr_and (evr_is "tuple" "tuple" kit_tup (ev_nameS 0).bo T.b_isinstance T.b_tuple boot_isinstance (by decide +kernel)) (evr_one (evr_allY 1 T.G_are_answers hcd.symm hr T.b_all (by decide +kernel) (by decide +kernel) rfl rfl (ev_nameS 0) (elt_call2 (k := 0) T.C_is_answer (q_is_answer T) (hr.mono (by omega)) rfl rfl rfl))))))) (fun as Q hn hq => ?_)
  obtain ⟨d, n, rfl, q⟩ := hq
  cases d with
  | tuple ds => exact ⟨fun x _ => ⟨n, rfl⟩, q⟩
  | _ => exact q
end
def ascI (ds : List PyData) : Bool := (ds.zip (ds.drop 1)).all fun p => ltI p.1 p.2
def fs_ascend : FSp := fun as Q => ∃ ds : List PyData, as = [.va (.tuple ds)] ∧ (∀ d ∈ ds, isI d) ∧ Q (.va (.bool (ascI ds)))
theorem mo_ascend : MoF fs_ascend := fun as Q Q' k ⟨d, h1, h2, h3⟩ => ⟨d, h1, h2, k _ h3⟩
section
variable {P : Program} {w : World} {K : PySem.W.Frag} {mg : Str → Option Value} {base : Heap}
theorem ok_ascend (T : Top K mg base) : FnG P w K mg base CX0 (2) T.f_ascend T.d_ascend ["things"] (PSp K 1 (fs_ascend)) := by
  refine fn_dataC T.F_ascend sc_ascend (fun cdv hcd A outer s H E hr => (evb_one (evs_ret (evr_allZ T.G_ascend hcd.symm hr T.b_all (by decide +kernel) T.b_zip rfl rfl (by decide +kernel) (evl_cons (ev_name 0) (evl_cons (evr_slice (ev_nameS 0) (evo_some ev_int) evo_none).cl evl_nil)) (elt_lt rfl rfl))))) (fun as Q hn hq => ?_)
  obtain ⟨ds, rfl, hi, q⟩ := hq
  have e : DL.cutD ds (some 1) none = ds.drop 1 := cut_from ds 1
  refine ⟨⟨hi, ?_⟩, ?_⟩
  · rw [e]
    exact fun d m => hi d (List.mem_of_mem_drop m)
  · rw [e]
    exact q
end
def lenA : PyData → Nat
  | .tuple ds => ds.length
  | _ => 0
def lotB (n : Int) : PyData → Bool
  | .tuple ds => ansA n (.tuple ds) && (decide (0 < (ds.length : Int)) && ascI ds)
  | _ => false
theorem ans_ints {n : Int} {ds : List PyData} (h : ds.all (ansD (.int n)) = true) : ∀ d ∈ ds, isI d := fun d m => by
  have := List.all_eq_true.mp h d m
  cases d with
  | int i => trivial
  | _ => cases this
def fs_is_lot : FSp := fun as Q => ∃ (d : PyData) (n : Int), as = [.va d, .va (.int n)] ∧ (∀ ds, d = .tuple ds → ds.length ≤ 1000) ∧ Q (.va (.bool (lotB n d)))
theorem mo_is_lot : MoF fs_is_lot := fun as Q Q' k ⟨d, n, h1, h2, h3⟩ => ⟨d, n, h1, h2, k _ h3⟩
section
variable {P : Program} {w : World} {K : PySem.W.Frag} {mg : Str → Option Value} {base : Heap}
theorem ok_is_lot (T : Top K mg base) : FnG P w K mg base CX0 (8) T.f_is_lot T.d_is_lot ["value", "n"] (PSp K 2 (fs_is_lot)) := by
  refine fn_data T.F_is_lot sc_is_lot (fun cdv A outer s H E hr => (evb_one (evs_ret (evr_and (evr_call (ok_are_answers T) mo_are_answers (hr.mono (by omega)) T.C_are_answers.hm T.C_are_answers.hk T.C_are_answers.hb (eva_cons (ev_name 0) (eva_cons (ev_name 1) eva_nil))) (evr_and (evr_cmp od_gt (evr_blt cd_len T.b_len (by decide +kernel) (evl_cons (ev_nameS 0) evl_nil)).cl ev_int) (evr_one (evr_call (ok_ascend T) mo_ascend (hr.mono (by omega)) T.C_ascend.hm T.C_ascend.hk T.C_ascend.hb (eva_cons (ev_name 0) eva_nil)))))))) (fun as Q hn hq => ?_)
  obtain ⟨d, n, rfl, hl, q⟩ := hq
  refine ⟨rfl, d, n, rfl, ?_⟩
  cases d with
  | tuple ds =>
    have hl := hl ds rfl
    have q : Q (.va (.bool (ansA n (.tuple ds) && (decide (0 < (ds.length : Int)) && ascI ds)))) := q
    refine ite3 (fun h => ?_) (fun h => ?_)
    · rw [h, Bool.true_and] at q
      refine ⟨trivial, ?_⟩
      refine ite3 (fun h2 => ?_) (fun h2 => ?_)
      · rw [show decide (0 < (ds.length : Int)) = true from h2, Bool.true_and] at q
        exact ⟨rfl, ds, rfl, ans_ints h, q⟩
      · rw [show decide (0 < (ds.length : Int)) = false from Bool.eq_false_iff.mpr h2, Bool.false_and] at q
        exact q
    · rw [Bool.eq_false_iff.mpr h, Bool.false_and] at q
      exact q
  | _ => exact q
end
end K20

set_option Elab.async false
set_option linter.all false
set_option maxRecDepth 100000
set_option maxHeartbeats 400000
namespace K20
open PySem PySem.Spec PyProof.Rows L2 DL
variable [Tb]
local macro_rules | `(tactic| walk_at "rw") => `(tactic| simp only [d01, d0m, dm0, d10, Rw.toD, rdIn, wds, flatD, List.all_cons, List.all_nil, dw, Bool.true_or, Bool.false_or, Bool.or_false, Bool.or_true, Bool.true_and, Bool.and_true, Bool.false_and, Bool.and_false, Bool.not_true, Bool.not_false, decide_true, decide_false, true_and, and_true, if_true, if_false, Bool.false_eq_true, reduceIte, Nat.zero_add, Nat.reduceAdd, ite_self, wJR, wJL, wJM, wRJ, wRL, wRM, wLJ, wLR, wLM, wMJ, wMR, wML])
local macro_rules | `(tactic| walk_at "st") => `(tactic| simp only [wBo, w2, rdEq2, wNameS, wName, wC, wPart, startD, List.map_cons, List.map_nil, List.cons_append, List.nil_append, getS, AV.sv, rd1, List.length_cons, List.length_nil, List.replicate, endE, frzD, List.set, wOr, wAnd, wNot, wTru, wIs, wIf, wAndV, wOrV, wNotV, wIxC, wNeg, dat_va, dat_fr, sv_va, sv_fr, gtName, gtCons, gtNil, gtTup, wFrz, wBack, wIfS, wAugI, wPar3, wIsN, if_true, if_false, Bool.false_eq_true, Bool.not_true, Bool.not_false, decide_true, decide_false, Nat.sub_zero, Nat.succ_sub_succ_eq_sub, ite_true, ite_false, reduceIte, true_and, and_true, Nat.zero_add, Nat.reduceAdd, qisStrD_str, qisStrD_tup, qisStrD_lst, qisStrD_int, qisStrD_bl, qisStrD_non, qisStrD_dct, qisTupD_str, qisTupD_tup, qisTupD_lst, qisTupD_int, qisTupD_bl, qisTupD_non, qisTupD_dct, qisLstD_str, qisLstD_tup, qisLstD_lst, qisLstD_int, qisLstD_bl, qisLstD_non, qisLstD_dct, qisDctD_str, qisDctD_tup, qisDctD_lst, qisDctD_int, qisDctD_bl, qisDctD_non, qisDctD_dct, qisBooD_str, qisBooD_tup, qisBooD_lst, qisBooD_int, qisBooD_bl, qisBooD_non, qisBooD_dct, qisIntD_str, qisIntD_tup, qisIntD_lst, qisIntD_int, qisIntD_bl, qisIntD_non, qisIntD_dct, qAddI, qAddS, qAddT, qAddL, qInt, qSlT, qSlL, qSlS, qEqI, qEqS, qEqB, qEqN, qEqT, qEqL, qIxT0, qIxT1, qIxT2, qIxL0, qIxL1, qLenT, qLenL, qLenS, qTupT, qTupL, qLstT, qLstL, qIt, qItL, qIntI, qBl, qTrT, qTrL, qTrI, qTrN, qNoN, qNoT, qNoL, qNoI, qNoS])
local macro_rules | `(tactic| walk_at "run") => `(tactic| ((try walk_at "rw"); (try walk_at "st"); (try walk_at "rw")))
local macro_rules | `(tactic| walk_at "dl") => `(tactic| simp only [wBo, w2, rdEq2, dEq, wNameS, wName, wC, startD, List.map_cons, List.map_nil, List.cons_append, List.nil_append, getS, AV.sv, rd1, List.length_cons, List.length_nil, List.replicate, endE, frzD, wBack, List.set, wOr, wAnd, wNot, wTru, wIs, wIf, wAndV, wOrV, wNotV, wIxC, ixC, nthD, dLen, dTuple, dList, dat_va, dat_fr, sv_va, sv_fr, gtName, gtCons, gtNil, gtTup, truD, wFrz, wIfS, if_true, if_false, Bool.false_eq_true, isStrD, isTupD, isLstD, isBooD, isIntD, isDctD, Bool.not_true, Bool.not_false, decide_true, decide_false, Nat.sub_zero, Nat.succ_sub_succ_eq_sub, ite_true, ite_false, reduceIte, true_and, and_true])

theorem wbo2_then {rd : RD2} {A B : WD} {sd : SD} {d1 d2 : PyData} {b : Bool} {K : Bool → Prop} (hA : ∀ K : PyData → Prop, K d1 → A sd K) (hB : ∀ K : PyData → Prop, K d2 → B sd K) (hr : ∀ K : RV → Prop, K (.va (.bool b)) → rd d1 d2 K) (h : K b) :
    wBo (w2 rd A B) sd K := hA _ (hB _ (hr _ h))
theorem ifor_then {sd : SD} {t1 t2 : WB} {b1 b2 : Bool} {t e : WS} {E : ED} (h1 : ∀ K : Bool → Prop, K b1 → t1 sd K) (h2 : ∀ K : Bool → Prop, K b2 → t2 sd K) (h : if (b1 || b2) = true then t E sd else e E sd) : wIfS (wOr t1 t2) t e E sd := by
  refine h1 _ ?_
  cases b1 with
  | true => exact h
  | false => exact h2 _ h
theorem or_then {sd : SD} {t1 t2 : WB} {b1 b2 : Bool} {K : Bool → Prop} (h1 : ∀ K : Bool → Prop, K b1 → t1 sd K) (h2 : ∀ K : Bool → Prop, K b2 → t2 sd K) (h : K (b1 || b2)) : wOr t1 t2 sd K := by
  refine h1 _ ?_
  cases b1 with
  | true => exact h
  | false => exact h2 _ h
theorem int_ne {i : Int} {K : RV → Prop} (h : K (.va (.bool false))) : rdEq2 true (.int i) (.int i) K := by
  show K (.va (.bool (!decide (i = i))))
  rw [decide_eq_true rfl]
  exact h
def lt2 (ds : List PyData) : PyData → Bool
  | .int k => ltI (ds.getD k.toNat .none) (ds.getD (k.toNat + 1) .none)
  | _ => false
theorem mem_rg {n : Nat} {d : PyData} (m : d ∈ rangeD 0 n) : ∃ k : Nat, k < n ∧ d = .int (k : Int) := by
  unfold rangeD at m
  obtain ⟨k, mk, rfl⟩ := List.mem_map.mp m
  exact ⟨k, List.mem_range.mp mk, by simp⟩
theorem int_at {ds : List PyData} {k : Nat} (h : ∀ d ∈ ds, isI d) (hk : k < ds.length) : ∃ i, ds[k]? = some (.int i) := by
  have e := List.getElem?_eq_getElem hk
  have := h _ (List.getElem_mem hk)
  rw [e]
  cases e2 : ds[k] with
  | int i => exact ⟨i, rfl⟩
  | _ => rw [e2] at this; exact this.elim
theorem wNameS_at {i : Nat} {sd : SD} {d : PyData} {Q : PyData → Prop} (h : getS sd i = .va d) (q : Q d) : wNameS i sd Q := by unfold wNameS; rw [h]; exact q
theorem lt_go {sd : SD} {L : List PyData} {k : Nat} {i j : Int} {A : PyData → Prop} (g0 : getS sd 0 = .va (.tuple L)) (gk : getS sd 2 = .va (.int k)) (h1 : L[k]? = some (.int i)) (h2 : L[k + 1]? = some (.int j)) (hA : A (.bool (decide (i < j)))) :
    w2 (rdInt (fun _ _ => True) fun i j => PyData.bool (decide (i < j))) (fun sd Q => w2 rdIx (wNameS 0) (wNameS 2) sd fun r => Q r.dat) (fun sd Q => w2 rdIx (wNameS 0) (fun sd Q => w2 rdAdd (wNameS 2) (wC (.int 1)) sd fun r => Q r.dat) sd fun r => Q r.dat) sd fun z => A z.dat :=
  wNameS_at g0 (wNameS_at gk (rdIx_tup h1 (wNameS_at g0 (wNameS_at gk (by
    have e2 : (k : Int) + 1 = ((k + 1 : Nat) : Int) := rfl
    simp only [wC, rdAdd]
    rw [e2]
    exact rdIx_tup (n := k + 1) h2 ⟨trivial, hA⟩)))))
theorem asc_eq (ds : List PyData) : (rangeD 0 (ds.length - 1)).all (lt2 ds) = ascI ds := by
  unfold ascI
  have e := all_trZ ltI (ds.zip (ds.drop 1))
  have el : (ds.zip (ds.drop 1)).length = ds.length - 1 := by rw [List.length_zip, List.length_drop]; omega
  rw [el] at e
  rw [← e]
  unfold rangeD
  rw [List.all_map, Bool.eq_iff_iff, List.all_eq_true, List.all_eq_true]
  have key : ∀ k ∈ List.range (ds.length - 1), lt2 ds (.int (k : Int)) = trZ ltI (ds.zip (ds.drop 1)) k := fun k m => by
    have hk := List.mem_range.mp m
    have h1 : ds[k]? = some (ds[k]'(by omega)) := List.getElem?_eq_getElem (by omega)
    have h2 : ds[k + 1]? = some (ds[k + 1]'(by omega)) := List.getElem?_eq_getElem (by omega)
    have h3 : (ds.zip (ds.drop 1))[k]? = some (ds[k]'(by omega), ds[k + 1]'(by omega)) := by
      rw [List.getElem?_zip_eq_some]
      exact ⟨h1, by rw [List.getElem?_drop, Nat.add_comm 1 k]; exact h2⟩
    unfold trZ
    rw [h3]
    show ltI (ds.getD k .none) (ds.getD (k + 1) .none) = _
    rw [List.getD_eq_getElem?_getD, List.getD_eq_getElem?_getD, h1, h2]
    rfl
  constructor
  · intro h k m
    rw [← key k m]
    have := h k m
    simpa using this
  · intro h k m
    have := h k m
    rw [← key k m] at this
    simpa using this
theorem ans_boo {n : Int} {ds : List PyData} (h : ds.any isBooD = true) : ds.all (ansD (.int n)) = false := by
  obtain ⟨d, m, e⟩ := List.any_eq_true.mp h
  cases hh : ds.all (ansD (.int n)) with
  | false => rfl
  | true =>
    have := List.all_eq_true.mp hh d m
    cases d with
    | bool b => cases this
    | _ => cases e
def boolB : PyData → Bool | .bool _ => true | _ => false
def fs__law_is_tuple : FSp := fun as Q => ∃ (ds : List PyData) (n : Int), as = [.va (.tuple ds), .va (.int ds.length), .va (.int n)] ∧ ds.length ≤ 1000 ∧ Q (.va (.bool (ds.all (ansD (.int n)))))
theorem mo__law_is_tuple : MoF fs__law_is_tuple := fun as Q Q' k ⟨d, n, h1, h2, h3⟩ => ⟨d, n, h1, h2, k _ h3⟩
section
variable {P : Program} {w : World} {K : PySem.W.Frag} {mg : Str → Option Value} {base : Heap}
theorem ok__law_is_tuple (T : Top K mg base) : FnG P w K mg base CX0 (2) T.f__law_is_tuple T.d__law_is_tuple ["_law_value", "_law_many", "_law_n"] (PSp K 3 (fs__law_is_tuple)) := by
  refine fn_data T.F__law_is_tuple sc__law_is_tuple (fun cdv A outer s H E hr => (evb_cons (evs_ifS (evw_or (evt_not (evt_tru (evr_is "tuple" "tuple" kit_tup (ev_nameS 0).bo T.b_isinstance T.b_tuple boot_isinstance (by decide +kernel)).cl)) (evw_or (evt_cmp (od_ne2 hr.rm.units) (evr_blt cd_len T.b_len (by decide +kernel) (evl_cons (ev_nameS 0) evl_nil)).cl (ev_nameS 1).bo) (evw_or1 (evt_tru (evr_blt (cd_any rfl) T.b_any (by decide +kernel) (evl_cons ((evc_lc (own := [("_law_one", 3)]) (ev_nameS 0) (blkOk_by (N := ["_law_value", "_law_many", "_law_n", "_law_one"]) (sc := defScope s__law_is_tuple) (by decide +kernel)) (fun _ _ _ _ _ => (evg_name 3 sc__law_is_tuple.nd)) (fun _ _ _ _ _ => evi_nil) (fun _ _ _ _ _ => (evr_is "bool" "bool" kit_boo (ev_nameS 3).bo T.b_isinstance T.b_bool boot_isinstance (by decide +kernel)))).rv rfl sc__law_is_tuple.nd).cl evl_nil)).cl)))).t (evb_one (evs_ret (ev_bl).rv)) evb_nil)
    (evb_one (evs_ret (evr_blt (cd_all rfl) T.b_all (by decide +kernel) (evl_cons ((evc_lc (own := [("_law_one", 3)]) (ev_nameS 0) (blkOk_by (N := ["_law_value", "_law_many", "_law_n", "_law_one"]) (sc := defScope s__law_is_tuple) (by decide +kernel)) (fun _ _ _ _ _ => (evg_name 3 sc__law_is_tuple.nd)) (fun _ _ _ _ _ => evi_nil) (fun _ _ _ _ _ => (evr_and (evr_is "int" "int" kit_int (ev_nameS 3).bo T.b_isinstance T.b_int boot_isinstance (by decide +kernel)) (evr_one (evr_chain od_le od_lt ev_int (ev_nameS 3) (ev_nameS 2)))))).rv rfl sc__law_is_tuple.nd).cl evl_nil)))))) (fun as Q hn hq => ?_)
  obtain ⟨ds, n, rfl, hl, q⟩ := hq
  have sz := sizeLine_eq
  refine ifor_then (b1 := false) (b2 := ds.any isBooD) (fun K h => h) (fun K h => or_then (b1 := false) (b2 := ds.any isBooD) (fun K h => wbo2_then (d1 := .int ds.length) (d2 := .int ds.length) (fun K h => h) (fun K h => h) (fun K h => int_ne h) h)
    (fun K h => ⟨⟨rfl, by omega⟩, lcW_map (fun p => .bool (isBooD p)) ds _ (fun p mp A B hA => hA) ⟨ds.map isBooD, by rw [List.map_map]; rfl, by rw [List.any_map]; exact h⟩⟩) h) (ite3 (fun hb => ?_) (fun hb => ?_))
  · rw [ans_boo hb] at q
    exact q
  · have nb : ∀ d ∈ ds, isBooD d = false := fun d m => by
      cases e : isBooD d with
      | false => rfl
      | true => exact absurd (List.any_eq_true.mpr ⟨d, m, e⟩) hb
    refine ⟨⟨rfl, by omega⟩, lcW_map (fun p => .bool (ansD (.int n) p)) ds _ (fun p mp A B hA => ?_) ⟨ds.map (ansD (.int n)), by rw [List.map_map]; rfl, by rw [List.all_map]; exact q⟩⟩
    have np := nb p mp
    cases p with
    | bool b => cases np
    | int i =>
      refine ⟨trivial, ite3 (fun h => ?_) (fun h => ?_)⟩
      · have e : ansD (.int n) (.int i) = decide (i < n) := by
          show (decide (0 ≤ i) && decide (i < n)) = _
          rw [show decide (0 ≤ i) = true from h, Bool.true_and]
        rw [e] at hA
        exact ⟨trivial, hA⟩
      · have e : ansD (.int n) (.int i) = false := by
          show (decide (0 ≤ i) && decide (i < n)) = _
          rw [show decide (0 ≤ i) = false from Bool.eq_false_iff.mpr h, Bool.false_and]
        rw [e] at hA
        exact hA
    | _ => exact hA
end
def fs__law_is_lot : FSp := fun as Q => ∃ (d : PyData) (n : Int), as = [.va d, .va (.int n)] ∧ (∀ ds, d = .tuple ds → ds.length ≤ 1000) ∧ Q (.va (.bool (lotB n d)))
theorem mo__law_is_lot : MoF fs__law_is_lot := fun as Q Q' k ⟨d, n, h1, h2, h3⟩ => ⟨d, n, h1, h2, k _ h3⟩
section
variable {P : Program} {w : World} {K : PySem.W.Frag} {mg : Str → Option Value} {base : Heap}
theorem ok__law_is_lot (T : Top K mg base) : FnG P w K mg base CX0 (4) T.f__law_is_lot T.d__law_is_lot ["_law_value", "_law_n"] (PSp K 2 (fs__law_is_lot)) := by
  refine fn_data T.F__law_is_lot sc__law_is_lot (fun cdv A outer s H E hr => (evb_cons (evs_ifS (evw_or (evt_not (evt_tru (evr_is "tuple" "tuple" kit_tup (ev_nameS 0).bo T.b_isinstance T.b_tuple boot_isinstance (by decide +kernel)).cl)) (evw_or (evt_cmp (od_eqE hr.rm.units) (ev_nameS 0) (ev_tup evl_nil).cl) (evw_or1 (evt_not (evt_tru (evr_call (ok__law_is_tuple T) mo__law_is_tuple (hr.mono (by omega)) T.C__law_is_tuple.hm T.C__law_is_tuple.hk T.C__law_is_tuple.hb (eva_cons (ev_name 0) (eva_cons (evr_blt cd_len T.b_len (by decide +kernel) (evl_cons (ev_nameS 0) evl_nil)).cl (eva_cons (ev_name 1) eva_nil)))).cl))))).t (evb_one (evs_ret (ev_bl).rv)) evb_nil)
    (evb_one (evs_ret (evr_blt (cd_all rfl) T.b_all (by decide +kernel) (evl_cons ((evc_lcR (own := [("_law_k", 2)]) (evr_op od_sub (evr_blt cd_len T.b_len (by decide +kernel) (evl_cons (ev_nameS 0) evl_nil)).cl ev_int).cl (blkOk_by (N := ["_law_value", "_law_n", "_law_k"]) (sc := defScope s__law_is_lot) (by decide +kernel)) T.b_range (fun _ _ _ _ _ => (evg_name 2 sc__law_is_lot.nd)) (fun _ _ _ _ _ => evi_nil) (fun _ _ _ _ _ => (evr_cmp od_lt (evr_ix (id_ix hr.rm.units) (ev_nameS 0) (ev_nameS 2)).cl (evr_ix (id_ix hr.rm.units) (ev_nameS 0) (evr_op od_add (ev_nameS 2) ev_int).cl).cl))).rv rfl sc__law_is_lot.nd).cl evl_nil)))))) (fun as Q hn hq => ?_)
  obtain ⟨d, n, rfl, hl, q⟩ := hq
  cases d with
  | tuple ds =>
    have hl := hl ds rfl
    have q : Q (.va (.bool (ds.all (ansD (.int n)) && (decide (0 < (ds.length : Int)) && ascI ds)))) := q
    have s0 : 0 ≤ sizeLine := Nat.zero_le _
    refine ifor_then (b1 := false) (b2 := ds.isEmpty || !ds.all (ansD (.int n))) (fun K h => h) (fun K h => or_then (b1 := ds.isEmpty) (b2 := !ds.all (ansD (.int n))) (fun K h => ⟨s0, h⟩)
      (fun K h => ⟨rfl, ds, n, rfl, hl, h⟩) h) (ite3 (fun hb => ?_) (fun hb => ?_))
    · cases ds with
      | nil => exact q
      | cons d0 ds =>
        have hb : (!(d0 :: ds).all (ansD (.int n))) = true := hb
        rw [Bool.not_eq_true'] at hb
        rw [hb, Bool.false_and] at q
        exact q
    · cases ds with
      | nil => exact absurd rfl hb
      | cons d0 ds =>
        have hb : (d0 :: ds).all (ansD (.int n)) = true := by
          have hb : ¬ (!(d0 :: ds).all (ansD (.int n))) = true := hb
          simpa using hb
        rw [hb, Bool.true_and, show decide (0 < ((d0 :: ds).length : Int)) = true from decide_eq_true (by rw [List.length_cons]; omega), Bool.true_and] at q
        have hi := ans_ints hb
        have l1 : ((d0 :: ds).length : Int) ≤ 1000 := by omega
        have l0 : (0 : Int) ≤ ((d0 :: ds).length : Int) := Int.natCast_nonneg _
        refine ⟨trivial, ⟨by omega, by omega⟩, ⟨rfl, by omega⟩, ?_⟩
        have en : (((d0 :: ds).length : Int) - 1).toNat = (d0 :: ds).length - 1 := by omega
        rw [en]
        refine lcW_map (fun p => .bool (lt2 (d0 :: ds) p)) (rangeD 0 ((d0 :: ds).length - 1)) _ (fun p mp A B hA => ?_) ⟨(rangeD 0 ((d0 :: ds).length - 1)).map (lt2 (d0 :: ds)), by rw [List.map_map]; rfl, by rw [List.all_map]; show Q (.va (.bool ((rangeD 0 ((d0 :: ds).length - 1)).all (lt2 (d0 :: ds))))); rw [asc_eq]; exact q⟩
        obtain ⟨k, hk, rfl⟩ := mem_rg mp
        obtain ⟨i, h1⟩ : ∃ i, (d0 :: ds)[k]? = some (.int i) := int_at hi (by omega)
        obtain ⟨j, h2⟩ : ∃ i, (d0 :: ds)[k + 1]? = some (.int i) := int_at hi (by omega)
        have e : lt2 (d0 :: ds) (.int (k : Int)) = decide (i < j) := by
          show ltI ((d0 :: ds).getD k .none) ((d0 :: ds).getD (k + 1) .none) = _
          rw [List.getD_eq_getElem?_getD, List.getD_eq_getElem?_getD, h1, h2]
          rfl
        rw [e] at hA
        generalize d0 :: ds = L at h1 h2 ⊢
        exact lt_go (sd := [.va (.tuple L), .va (.int n), .va (.int (k : Int))]) (L := L) (k := k) rfl rfl h1 h2 hA
  | _ => exact q
end
end K20

set_option Elab.async false
set_option linter.all false
set_option maxRecDepth 100000
set_option maxHeartbeats 400000
namespace K20
open PySem PySem.Spec PyProof.Rows L2 DL
variable [Tb]
local macro_rules | `(tactic| walk_at "rw") => `(tactic| simp only [d01, d0m, dm0, d10, Rw.toD, rdIn, wds, flatD, List.all_cons, List.all_nil, dw, Bool.true_or, Bool.false_or, Bool.or_false, Bool.or_true, Bool.true_and, Bool.and_true, Bool.false_and, Bool.and_false, Bool.not_true, Bool.not_false, decide_true, decide_false, true_and, and_true, if_true, if_false, Bool.false_eq_true, reduceIte, Nat.zero_add, Nat.reduceAdd, ite_self, wJR, wJL, wJM, wRJ, wRL, wRM, wLJ, wLR, wLM, wMJ, wMR, wML])
local macro_rules | `(tactic| walk_at "st") => `(tactic| simp only [wBo, w2, rdEq2, wNameS, wName, wC, wPart, startD, List.map_cons, List.map_nil, List.cons_append, List.nil_append, getS, AV.sv, rd1, List.length_cons, List.length_nil, List.replicate, endE, frzD, List.set, wOr, wAnd, wNot, wTru, wIs, wIf, wAndV, wOrV, wNotV, wIxC, wNeg, dat_va, dat_fr, sv_va, sv_fr, gtName, gtCons, gtNil, gtTup, wFrz, wBack, wIfS, wAugI, wPar3, wIsN, if_true, if_false, Bool.false_eq_true, Bool.not_true, Bool.not_false, decide_true, decide_false, Nat.sub_zero, Nat.succ_sub_succ_eq_sub, ite_true, ite_false, reduceIte, true_and, and_true, Nat.zero_add, Nat.reduceAdd, qisStrD_str, qisStrD_tup, qisStrD_lst, qisStrD_int, qisStrD_bl, qisStrD_non, qisStrD_dct, qisTupD_str, qisTupD_tup, qisTupD_lst, qisTupD_int, qisTupD_bl, qisTupD_non, qisTupD_dct, qisLstD_str, qisLstD_tup, qisLstD_lst, qisLstD_int, qisLstD_bl, qisLstD_non, qisLstD_dct, qisDctD_str, qisDctD_tup, qisDctD_lst, qisDctD_int, qisDctD_bl, qisDctD_non, qisDctD_dct, qisBooD_str, qisBooD_tup, qisBooD_lst, qisBooD_int, qisBooD_bl, qisBooD_non, qisBooD_dct, qisIntD_str, qisIntD_tup, qisIntD_lst, qisIntD_int, qisIntD_bl, qisIntD_non, qisIntD_dct, qAddI, qAddS, qAddT, qAddL, qInt, qSlT, qSlL, qSlS, qEqI, qEqS, qEqB, qEqN, qEqT, qEqL, qIxT0, qIxT1, qIxT2, qIxL0, qIxL1, qLenT, qLenL, qLenS, qTupT, qTupL, qLstT, qLstL, qIt, qItL, qIntI, qBl, qTrT, qTrL, qTrI, qTrN, qNoN, qNoT, qNoL, qNoI, qNoS])
local macro_rules | `(tactic| walk_at "run") => `(tactic| ((try walk_at "rw"); (try walk_at "st"); (try walk_at "rw")))
local macro_rules | `(tactic| walk_at "dl") => `(tactic| simp only [wBo, w2, rdEq2, dEq, wNameS, wName, wC, startD, List.map_cons, List.map_nil, List.cons_append, List.nil_append, getS, AV.sv, rd1, List.length_cons, List.length_nil, List.replicate, endE, frzD, wBack, List.set, wOr, wAnd, wNot, wTru, wIs, wIf, wAndV, wOrV, wNotV, wIxC, ixC, nthD, dLen, dTuple, dList, dat_va, dat_fr, sv_va, sv_fr, gtName, gtCons, gtNil, gtTup, truD, wFrz, wIfS, if_true, if_false, Bool.false_eq_true, isStrD, isTupD, isLstD, isBooD, isIntD, isDctD, Bool.not_true, Bool.not_false, decide_true, decide_false, Nat.sub_zero, Nat.succ_sub_succ_eq_sub, ite_true, ite_false, reduceIte, true_and, and_true])

/-! odd things, and what can be shown -/
structure Sv (d : PyData) : Prop where
  sh : okShow d ∨ okShowN d
  ln : ∀ ds, d = .tuple ds → ds.length ≤ 1000
def oddA : List PyData := [.none, .bool true, .bool false, .int (-1), .int 0, .int 7, .int ((10 : Int) ^ (30 : Int).toNat), .str ("" : Str), .str ("a" : Str), .str ("ab" : Str), .str ("A" : Str), .tuple [], .list [], .dict [], .tuple [.none], .list [.tuple []], .tuple [.tuple []], .dict [(.str "a", .int 1)]]
def itB (x : PyData) : Bool := x.showable && (Nat.ble x.depth 2 && (Nat.ble x.shown.length 50 && (x.canLay0 || nl x)))
def svB (d : PyData) : Bool := d.showable && ((SeqAt.shaped d || (nl d && Nat.ble d.depth 64)) && (Nat.ble d.shown.length 100 && (match d with
  | .tuple ds => Nat.ble ds.length 1000
  | _ => true)))
theorem sv_of {d : PyData} (h : svB d = true) : Sv d := by
  unfold svB at h
  rw [Bool.and_eq_true, Bool.and_eq_true, Bool.and_eq_true, Bool.or_eq_true, Bool.and_eq_true] at h
  obtain ⟨h1, h2, h3, h4⟩ := h
  have sz := sizeLine_eq
  have l := Nat.le_of_ble_eq_true h3
  refine ⟨?_, fun ds e => ?_⟩
  · rcases h2 with h2 | ⟨h2, h5⟩
    · exact .inl ⟨⟨h1, h2⟩, by omega⟩
    · exact .inr ⟨⟨h1, h2, Nat.le_of_ble_eq_true h5⟩, by omega⟩
  · subst e
    exact Nat.le_of_ble_eq_true h4
theorem odd_all : oddA.all (fun d => svB d && itB d) = true := by decide +kernel
theorem odd_sv {d : PyData} (h : d ∈ oddA) : Sv d := sv_of (by have := List.all_eq_true.mp odd_all d h; rw [Bool.and_eq_true] at this; exact this.1)
theorem odd_it {d : PyData} (h : d ∈ oddA) : itB d = true := by have := List.all_eq_true.mp odd_all d h; rw [Bool.and_eq_true] at this; exact this.2
def natB (n : Nat) : Bool := itB (.int (n : Int)) && ((PyData.int (n : Int)).canLay0 && nl (.int (n : Int)))
theorem nat_all : ∀ n : _root_.Fin 36, natB n.val = true := by decide +kernel
theorem tup_facts : ∀ {ds : List PyData}, (∀ x ∈ ds, itB x = true) → PyData.showableAll ds = true ∧ PyData.depthAll ds ≤ 2 ∧ sumLen (PyData.shownAll ds) ≤ 52 * ds.length
  | [], _ => ⟨rfl, Nat.zero_le _, Nat.zero_le _⟩
  | d :: ds, h => by
    have h1 := h d List.mem_cons_self
    obtain ⟨t1, t2, t3⟩ := tup_facts (ds := ds) fun x m => h x (List.mem_cons_of_mem _ m)
    unfold itB at h1
    rw [Bool.and_eq_true, Bool.and_eq_true, Bool.and_eq_true] at h1
    obtain ⟨a1, a2, a3, _⟩ := h1
    have a2 := Nat.le_of_ble_eq_true a2
    have a3 := Nat.le_of_ble_eq_true a3
    refine ⟨?_, ?_, ?_⟩
    · simp only [PyData.showableAll, a1, t1, Bool.and_self]
    · show max d.depth (PyData.depthAll ds) ≤ 2
      exact Nat.max_le.mpr ⟨a2, t2⟩
    · simp only [PyData.shownAll, sumLen, List.length_cons]
      omega
theorem lay_all : ∀ {ds : List PyData}, (∀ x ∈ ds, x.canLay0 = true) → PyData.canLayAll0 ds = true
  | [], _ => rfl
  | d :: ds, h => by simp only [PyData.canLayAll0, h d List.mem_cons_self, lay_all (ds := ds) fun x m => h x (List.mem_cons_of_mem _ m), Bool.and_self]
theorem nl_all : ∀ {ds : List PyData}, (∀ x ∈ ds, nl x = true) → nlA ds = true
  | [], _ => rfl
  | d :: ds, h => by simp only [nlA, h d List.mem_cons_self, nl_all (ds := ds) fun x m => h x (List.mem_cons_of_mem _ m), Bool.and_self]
theorem sv_tup {ds : List PyData} (h : ∀ x ∈ ds, itB x = true) (h2 : (∀ x ∈ ds, x.canLay0 = true) ∨ ∀ x ∈ ds, nl x = true) (hl : ds.length ≤ 100) : Sv (.tuple ds) := by
  obtain ⟨t1, t2, t3⟩ := tup_facts h
  have tl := tup_len (PyData.shownAll ds)
  have sz := sizeLine_eq
  have sl : (PyData.shown (.tuple ds)).length ≤ sizeLine := by
    simp only [PyData.shown]
    omega
  refine ⟨?_, fun es e => ?_⟩
  · rcases h2 with h2 | h2
    · refine .inl ⟨⟨by simp only [PyData.showable, t1], ?_⟩, sl⟩
      unfold SeqAt.shaped
      simp only [PyData.canLay0, lay_all h2, PyData.depth, Bool.true_and]
      exact decide_eq_true (by omega)
    · refine .inr ⟨⟨by simp only [PyData.showable, t1], by simp only [nl, nl_all h2], ?_⟩, sl⟩
      simp only [PyData.depth]
      omega
  · cases e
    omega
theorem sv_lst {ds : List PyData} (h : ∀ x ∈ ds, itB x = true) (h2 : ∀ x ∈ ds, x.canLay0 = true) (hl : ds.length ≤ 100) : Sv (.list ds) := by
  obtain ⟨t1, t2, t3⟩ := tup_facts h
  have tl := list_len (PyData.shownAll ds)
  have sz := sizeLine_eq
  refine ⟨.inl ⟨⟨by simp only [PyData.showable, t1], ?_⟩, ?_⟩, fun es e => by cases e⟩
  · unfold SeqAt.shaped
    simp only [PyData.canLay0, lay_all h2, PyData.depth, Bool.true_and]
    exact decide_eq_true (by omega)
  · simp only [PyData.shown]
    omega
theorem iD_it {k : Nat} (h : k < 36) : itB (iD k) = true ∧ (iD k).canLay0 = true ∧ nl (iD k) = true := by
  have := nat_all ⟨k, h⟩
  unfold natB at this
  rw [Bool.and_eq_true, Bool.and_eq_true] at this
  exact this
theorem ns_it {p : List Nat} (h : ∀ i ∈ p, i < 36) : ∀ x ∈ p.map iD, itB x = true ∧ x.canLay0 = true ∧ nl x = true := fun x m => by
  obtain ⟨i, hi, rfl⟩ := List.mem_map.mp m
  exact iD_it (h i hi)
theorem sv_ns {p : List Nat} (h : ∀ i ∈ p, i < 36) (hl : p.length ≤ 100) : Sv (nsD p) :=
  sv_tup (fun x m => (ns_it h x m).1) (.inl fun x m => (ns_it h x m).2.1) (by rw [List.length_map]; exact hl)
theorem sv_nl {p : List Nat} (h : ∀ i ∈ p, i < 36) (hl : p.length ≤ 100) : Sv (.list (p.map iD)) :=
  sv_lst (fun x m => (ns_it h x m).1) (fun x m => (ns_it h x m).2.1) (by rw [List.length_map]; exact hl)
theorem sv_with {a b : List Nat} {x : PyData} (ha : ∀ i ∈ a, i < 36) (hb : ∀ i ∈ b, i < 36) (hx : itB x = true) (hl : a.length + b.length ≤ 90) : Sv (.tuple ((a.map iD ++ [x]) ++ b.map iD)) := by
  have hx2 : x.canLay0 = true ∨ nl x = true := by
    unfold itB at hx
    rw [Bool.and_eq_true, Bool.and_eq_true, Bool.and_eq_true, Bool.or_eq_true] at hx
    exact hx.2.2.2
  have mem : ∀ y ∈ (a.map iD ++ [x]) ++ b.map iD, (itB y = true ∧ y.canLay0 = true ∧ nl y = true) ∨ y = x := fun y m => by
    rcases List.mem_append.mp m with m | m
    · rcases List.mem_append.mp m with m | m
      · exact .inl (ns_it ha y m)
      · exact .inr (List.mem_singleton.mp m)
    · exact .inl (ns_it hb y m)
  refine sv_tup (fun y m => ?_) (hx2.imp (fun e y m => ?_) fun e y m => ?_) (by rw [List.length_append, List.length_append, List.length_map, List.length_map, List.length_singleton]; omega)
  · rcases mem y m with h | rfl
    · exact h.1
    · exact hx
  · rcases mem y m with h | rfl
    · exact h.2.1
    · exact e
  · rcases mem y m with h | rfl
    · exact h.2.2
    · exact e
theorem pk {m : Int} {Q2 : RV → Prop} (h1 : m < 2 ^ 20) (h2 : ∀ r : Int, 0 ≤ r → (r < m ∨ r = 0) → Q2 (.va (.int r))) : fsPick [.so, .va (.int m)] Q2 := ⟨by
  have : (2 : Int) ^ 20 = 1048576 := by decide
  omega, h2⟩
def fs__law_any_odd : FSp := fun as Q => as = [.so] ∧ ∀ d ∈ oddA, Q (.va d)
theorem mo__law_any_odd : MoF fs__law_any_odd := fun as Q Q' k ⟨h, q⟩ => ⟨h, fun d m => k _ (q d m)⟩
section
variable {P : Program} {w : World} {K : PySem.W.Frag} {mg : Str → Option Value} {base : Heap}
theorem ok__law_any_odd (T : Top K mg base) : FnG P w K mg base CX0 (2) T.f__law_any_odd T.d__law_any_odd ["_law_source"] (PSp K 1 (fs__law_any_odd)) := by
  refine fn_data T.F__law_any_odd sc__law_any_odd (fun cdv A outer s H E hr => (evb_cons (evs_set 1 (ev_lst (evl_cons ev_non (evl_cons ev_bl (evl_cons ev_bl (evl_cons (evr_neg ev_int).cl (evl_cons ev_int (evl_cons ev_int (evl_cons (evr_op od_pow ev_int ev_int).cl (evl_cons ev_str (evl_cons ev_str (evl_cons ev_str (evl_cons ev_str (evl_cons (ev_tup evl_nil).cl (evl_cons (ev_lst evl_nil).cl (evl_cons evr_dnew.cl (evl_cons (ev_tup (evl_cons ev_non evl_nil)).cl (evl_cons (ev_lst (evl_cons (ev_tup evl_nil).cl evl_nil)).cl (evl_cons (ev_tup (evl_cons (ev_tup evl_nil).cl evl_nil)).cl (evl_cons evr_disp1.cl evl_nil))))))))))))))))))) sc__law_any_odd.nd)
    (evb_frz 1 (evb_one (evs_ret (evr_ix (id_ix hr.rm.units) (ev_nameS 1) (evr_call (ok__law_pick T) mo__law_pick (hr.mono (by omega)) T.C__law_pick.hm T.C__law_pick.hk T.C__law_pick.hb (eva_so 0 (eva_cons (evr_blt cd_len T.b_len (by decide +kernel) (evl_cons (ev_nameS 1) evl_nil)).cl eva_nil))).cl)))))) (fun as Q hn hq => ?_)
  obtain ⟨rfl, q⟩ := hq
  have s0 : 0 ≤ sizeLine := Nat.zero_le _
  have s1 : 1 ≤ sizeLine := by decide
  have s18 : 18 ≤ sizeLine := by decide
  have cp : CPow 10 30 := ⟨by decide, by decide, by show (10 : Nat) < 2 ^ 64; decide⟩
  refine ⟨cp, s0, s0, s1, s0, s1, s0, s1, s18, ?_⟩
  refine ⟨rfl, pk (by decide) fun i i0 i1 => rdIx_all i0 (by have i1 : i < 18 ∨ i = 0 := i1; show i < 18; omega) fun v hv => q v hv⟩
end
end K20

set_option Elab.async false
set_option linter.all false
set_option maxRecDepth 100000
set_option maxHeartbeats 400000
namespace K20
open PySem PySem.Spec PyProof.Rows L2 DL
variable [Tb]
local macro_rules | `(tactic| walk_at "rw") => `(tactic| simp only [d01, d0m, dm0, d10, Rw.toD, rdIn, wds, flatD, List.all_cons, List.all_nil, dw, Bool.true_or, Bool.false_or, Bool.or_false, Bool.or_true, Bool.true_and, Bool.and_true, Bool.false_and, Bool.and_false, Bool.not_true, Bool.not_false, decide_true, decide_false, true_and, and_true, if_true, if_false, Bool.false_eq_true, reduceIte, Nat.zero_add, Nat.reduceAdd, ite_self, wJR, wJL, wJM, wRJ, wRL, wRM, wLJ, wLR, wLM, wMJ, wMR, wML])
local macro_rules | `(tactic| walk_at "st") => `(tactic| simp only [wBo, w2, rdEq2, wNameS, wName, wC, wPart, startD, List.map_cons, List.map_nil, List.cons_append, List.nil_append, getS, AV.sv, rd1, List.length_cons, List.length_nil, List.replicate, endE, frzD, List.set, wOr, wAnd, wNot, wTru, wIs, wIf, wAndV, wOrV, wNotV, wIxC, wNeg, dat_va, dat_fr, sv_va, sv_fr, gtName, gtCons, gtNil, gtTup, wFrz, wBack, wIfS, wAugI, wPar3, wIsN, if_true, if_false, Bool.false_eq_true, Bool.not_true, Bool.not_false, decide_true, decide_false, Nat.sub_zero, Nat.succ_sub_succ_eq_sub, ite_true, ite_false, reduceIte, true_and, and_true, Nat.zero_add, Nat.reduceAdd, qisStrD_str, qisStrD_tup, qisStrD_lst, qisStrD_int, qisStrD_bl, qisStrD_non, qisStrD_dct, qisTupD_str, qisTupD_tup, qisTupD_lst, qisTupD_int, qisTupD_bl, qisTupD_non, qisTupD_dct, qisLstD_str, qisLstD_tup, qisLstD_lst, qisLstD_int, qisLstD_bl, qisLstD_non, qisLstD_dct, qisDctD_str, qisDctD_tup, qisDctD_lst, qisDctD_int, qisDctD_bl, qisDctD_non, qisDctD_dct, qisBooD_str, qisBooD_tup, qisBooD_lst, qisBooD_int, qisBooD_bl, qisBooD_non, qisBooD_dct, qisIntD_str, qisIntD_tup, qisIntD_lst, qisIntD_int, qisIntD_bl, qisIntD_non, qisIntD_dct, qAddI, qAddS, qAddT, qAddL, qInt, qSlT, qSlL, qSlS, qEqI, qEqS, qEqB, qEqN, qEqT, qEqL, qIxT0, qIxT1, qIxT2, qIxL0, qIxL1, qLenT, qLenL, qLenS, qTupT, qTupL, qLstT, qLstL, qIt, qItL, qIntI, qBl, qTrT, qTrL, qTrI, qTrN, qNoN, qNoT, qNoL, qNoI, qNoS])
local macro_rules | `(tactic| walk_at "run") => `(tactic| ((try walk_at "rw"); (try walk_at "st"); (try walk_at "rw")))
local macro_rules | `(tactic| walk_at "dl") => `(tactic| simp only [wBo, w2, rdEq2, dEq, wNameS, wName, wC, startD, List.map_cons, List.map_nil, List.cons_append, List.nil_append, getS, AV.sv, rd1, List.length_cons, List.length_nil, List.replicate, endE, frzD, wBack, List.set, wOr, wAnd, wNot, wTru, wIs, wIf, wAndV, wOrV, wNotV, wIxC, ixC, nthD, dLen, dTuple, dList, dat_va, dat_fr, sv_va, sv_fr, gtName, gtCons, gtNil, gtTup, truD, wFrz, wIfS, if_true, if_false, Bool.false_eq_true, isStrD, isTupD, isLstD, isBooD, isIntD, isDctD, Bool.not_true, Bool.not_false, decide_true, decide_false, Nat.sub_zero, Nat.succ_sub_succ_eq_sub, ite_true, ite_false, reduceIte, true_and, and_true])

theorem gt_go {i : Nat} {d : PyData} {sd : SD} {Q : SD → Prop} (h : Q (sd.set i (.va d))) : gtName i d sd Q := h
theorem len_ne {xs : List PyData} {K : RV → Prop} (h : 0 < xs.length) (q : K (.va (.bool false))) : rdEq2 false (.int xs.length) (.int 0) K := by
  show K (.va (.bool (decide ((xs.length : Int) = 0))))
  rw [decide_eq_false (by omega)]
  exact q
theorem cut_ns (l : List Nat) (lo hi : Option Int) : ∃ l' : List Nat, DL.cutD (l.map iD) lo hi = l'.map iD ∧ (∀ x ∈ l', x ∈ l) ∧ l'.length ≤ l.length := by
  unfold DL.cutD
  refine ⟨(l.drop (HT.sIx (l.map iD).length 0 lo)).take (HT.sIx (l.map iD).length (l.map iD).length hi - HT.sIx (l.map iD).length 0 lo), by rw [List.map_take, List.map_drop], fun x m => List.mem_of_mem_drop (List.mem_of_mem_take m), ?_⟩
  rw [List.length_take, List.length_drop]
  omega
theorem sv_cut {l : List Nat} (hx : ∀ x ∈ l, x < 36) (hl : l.length ≤ 100) (lo hi : Option Int) : Sv (.tuple (DL.cutD (l.map iD) lo hi)) := by
  obtain ⟨l', e, h1, h2⟩ := cut_ns l lo hi
  rw [e]
  exact sv_ns (fun x m => hx x (h1 x m)) (by omega)
theorem if4 {sd : SD} {t1 t2 t3 t4 : WB} {b3 : Bool} {t e : WS} {E : ED} (h1 : ∀ K : Bool → Prop, K false → t1 sd K) (h2 : ∀ K : Bool → Prop, K false → t2 sd K) (h3 : ∀ K : Bool → Prop, K b3 → t3 sd K) (h4 : b3 = false → ∀ K : Bool → Prop, (∀ b, K b) → t4 sd K) (ht : t E sd) (he : b3 = false → e E sd) :
    wIfS (wOr t1 (wOr t2 (wOr t3 t4))) t e E sd := by
  refine h1 _ ?_
  refine h2 _ ?_
  refine h3 _ ?_
  cases b3 with
  | true => exact ht
  | false =>
    refine h4 rfl _ fun b => ?_
    cases b with
    | true => exact ht
    | false => exact he rfl
def fs__law_bent (n : Nat) : FSp := fun as Q => ∃ (d : PyData) (k : Nat), as = [.so, .va d, .va (.int k)] ∧ k < n ∧ ((∃ i : Int, d = .int i) ∨ (∃ l : List Nat, d = nsD l ∧ (∀ x ∈ l, x < 36) ∧ l.length ≤ 36 ∧ 0 < l.length)) ∧ (∀ o ∈ oddA, Q (.va o)) ∧ ∀ l : List Nat, d = nsD l → ∀ o, Sv o → Q (.va o)
theorem mo__law_bent (n : Nat) : MoF (fs__law_bent n) := fun as Q Q' k ⟨d, m, h1, h2, h3, h4, h5⟩ => ⟨d, m, h1, h2, h3, fun o z => k _ (h4 o z), fun l e o z => k _ (h5 l e o z)⟩
theorem no__law_bent (as : List AV) (Q : RV → Prop) (h : fs__law_bent 0 as Q) : False := by
  obtain ⟨_, _, _, z, _⟩ := h
  exact Nat.not_lt_zero _ z
section
variable {P : Program} {w : World} {K : PySem.W.Frag} {mg : Str → Option Value} {base : Heap}
theorem ok__law_bent (T : Top K mg base) : ∀ n : Nat, FnG P w K mg base CX0 (n + 3) T.f__law_bent T.d__law_bent ["_law_source", "_law_value", "_law_deep"] (PSp K 3 (fs__law_bent n))
  | 0 => (FnG.no.mono (Nat.zero_le _)).imp fun vs H Q E ⟨S, Oc, as, h1, h2, h3, h4, h5, h6⟩ => (no__law_bent as _ h6).elim
  | n + 1 => by
    have G := ok__law_bent T n
    refine FnG.mono (j := (n + 3) + 1) (fn_data T.F__law_bent sc__law_bent (fun cdv A outer s H E hr => (evb_cons (evs_ifS (evw_or (evt_not (evt_tru (evr_is2 "list" "tuple" "list" "tuple" kit_lst kit_tup (ev_nameS 1).bo T.b_isinstance T.b_list T.b_tuple boot_isinstance (by decide +kernel) (by decide +kernel)).cl)) (evw_or (evt_cmp (od_eq2 hr.rm.units) (evr_blt cd_len T.b_len (by decide +kernel) (evl_cons (ev_nameS 1) evl_nil)).cl ev_int) (evw_or (evt_cmp (od_eq2 hr.rm.units) (ev_nameS 2).bo ev_int) (evw_or1 (evt_cmp (od_eq2 hr.rm.units) (evr_call (ok__law_pick T) mo__law_pick (hr.mono (by omega)) T.C__law_pick.hm T.C__law_pick.hk T.C__law_pick.hb (eva_so 0 (eva_cons ev_int eva_nil))).cl ev_int))))).t (evb_cons (evs_par 3 4 (evr_call (ok__law_pick T) mo__law_pick (hr.mono (by omega)) T.C__law_pick.hm T.C__law_pick.hk T.C__law_pick.hb (eva_so 0 (eva_cons ev_int eva_nil))) (evr_call (ok__law_any_odd T) mo__law_any_odd (hr.mono (by omega)) T.C__law_any_odd.hm T.C__law_any_odd.hk T.C__law_any_odd.hb (eva_so 0 eva_nil)) rfl sc__law_bent.nd)
     (evb_cons (evs_ifS (evw_and (evt_tru (evr_is "tuple" "tuple" kit_tup (ev_nameS 1).bo T.b_isinstance T.b_tuple boot_isinstance (by decide +kernel)).cl) (evw_and1 (evt_cmp od_lt (ev_nameS 3) ev_int))).t (evb_one (evs_ret (evr_ix (id_ix hr.rm.units) (ev_lst (evl_cons (evr_slice (ev_nameS 1) (evo_some ev_int) evo_none).cl (evl_cons (evr_slice (ev_nameS 1) evo_none (evo_some (evr_neg ev_int).cl)).cl (evl_cons (evr_op od_add (ev_nameS 1) (ev_tup (evl_cons (ev_name 4) evl_nil)).cl).cl (evl_cons (evr_typ cd_list T.b_list (by decide +kernel) (evl_cons (ev_nameS 1) evl_nil)).cl evl_nil))))).cl (ev_nameS 3)))) evb_nil)
     (evb_one (evs_retO 4)))) evb_nil)
    (evb_cons (evs_set 5 (evr_call (ok__law_pick T) mo__law_pick (hr.mono (by omega)) T.C__law_pick.hm T.C__law_pick.hk T.C__law_pick.hb (eva_so 0 (eva_cons (evr_blt cd_len T.b_len (by decide +kernel) (evl_cons (ev_nameS 1) evl_nil)).cl eva_nil))) sc__law_bent.nd)
    (evb_cons (evs_set 6 (evr_call G (mo__law_bent n) (hr.mono (by omega)) T.C__law_bent.hm T.C__law_bent.hk T.C__law_bent.hb (eva_so 0 (eva_cons (evr_ix (id_ix hr.rm.units) (ev_nameS 1) (ev_nameS 5)).cl (eva_cons (evr_op od_sub (ev_nameS 2) ev_int).cl eva_nil)))) sc__law_bent.nd)
    (evb_one (evs_ret (evr_if (evt_tru (evr_is "tuple" "tuple" kit_tup (ev_nameS 1).bo T.b_isinstance T.b_tuple boot_isinstance (by decide +kernel)).cl) (evr_op od_add (evr_op od_add (evr_slice (ev_nameS 1) evo_none (evo_some (ev_nameS 5))).cl (ev_tup (evl_cons (ev_name 6) evl_nil)).cl).cl (evr_slice (ev_nameS 1) (evo_some (evr_op od_add (ev_nameS 5) ev_int).cl) evo_none).cl) (evr_op od_add (evr_op od_add (evr_slice (ev_nameS 1) evo_none (evo_some (ev_nameS 5))).cl (ev_lst (evl_cons (ev_name 6) evl_nil)).cl).cl (evr_slice (ev_nameS 1) (evo_some (evr_op od_add (ev_nameS 5) ev_int).cl) evo_none).cl)))))))) (fun as Q hn hq => ?_)) (by omega)
    obtain ⟨d, m, rfl, hm, hd, q1, q2⟩ := hq
    rcases hd with ⟨i, rfl⟩ | ⟨l, rfl, hx, hl, h0⟩
    · refine ⟨rfl, pk (by decide) fun road r0 r1 => ⟨rfl, rfl, fun o mo => ?_⟩⟩
      exact q1 o mo
    · have ll : (l.map iD).length = l.length := List.length_map _
      have l36 : (l.length : Int) ≤ 36 := by omega
      refine if4 (b3 := decide ((m : Int) = 0)) (fun K h => h) (fun K h => wbo2_then (d1 := .int (l.map iD).length) (d2 := .int 0) (b := false) (fun K h => h) (fun K h => h) (fun K h => len_ne (by rw [ll]; exact h0) h) h)
        (fun K h => wbo2_then (d1 := .int m) (d2 := .int 0) (fun K h => h) (fun K h => h) (fun K h => h) h) (fun _ K h => ⟨rfl, pk (by decide) fun r r0 r1 => h _⟩) ?_ (fun hm0 => ?_)
      · refine ⟨rfl, pk (by decide) fun road r0 r1 => ⟨rfl, rfl, fun o mo => ?_⟩⟩
        refine ⟨trivial, ite3 (fun h => ?_) (fun _ => q1 o mo)⟩
        have h : road < 4 := of_decide_eq_true h
        have s1 : 1 ≤ sizeLine := by decide
        have s4 : 4 ≤ sizeLine := by decide
        have ln : (l.map iD).length + 1 ≤ sizeLine := by rw [ll, sizeLine_eq]; omega
        refine ⟨s1, ln, s4, rdIx_all r0 (by show road < 4; exact h) fun v hv => ?_⟩
        simp only [List.mem_cons, List.not_mem_nil, or_false] at hv
        rcases hv with rfl | rfl | rfl | rfl
        · exact q2 l rfl _ (sv_cut hx (by omega) _ _)
        · exact q2 l rfl _ (sv_cut hx (by omega) _ _)
        · have e := sv_with (a := l) (b := []) hx (fun i m => by cases m) (odd_it mo) (by simp only [List.length_nil]; omega)
          rw [List.map_nil, List.append_nil] at e
          exact q2 l rfl _ e
        · exact q2 l rfl _ (sv_nl hx (by omega))
      · have hm1 : ¬ (m : Int) = 0 := of_decide_eq_false hm0
        refine ⟨rfl, pk (by show ((l.map iD).length : Int) < 2 ^ 20; rw [ll]; omega) fun k k0 k1 => ?_⟩
        have k1 : k < ((l.map iD).length : Int) ∨ k = 0 := k1
        rw [ll] at k1
        obtain ⟨k, rfl⟩ := Int.eq_ofNat_of_zero_le k0
        have hk : k < l.length := by omega
        obtain ⟨m, rfl⟩ : ∃ j, m = j + 1 := ⟨m - 1, by omega⟩
        have em : ((m + 1 : Nat) : Int) - 1 = (m : Int) := by omega
        have hat : (l.map iD)[k]? = some (iD l[k]) := by rw [List.getElem?_map, List.getElem?_eq_getElem hk]; rfl
        walk_at "run"
        unfold wSo
        walk_at "run"
        refine rdIx_tup hat ?_
        refine ⟨iD l[k], m, congrArg (fun x => [AV.so, AV.va (iD l[k]), AV.va (.int x)]) em, by omega, .inl ⟨_, rfl⟩, fun o mo => ?_, fun l' e => by cases e⟩
        obtain ⟨a, ea, ha, la⟩ := cut_ns l none (some (k : Int))
        obtain ⟨b, eb, hb, lb⟩ := cut_ns l (some ((k : Int) + 1)) none
        show 1 ≤ sizeLine ∧ (DL.cutD (l.map iD) none (some (k : Int))).length + 1 ≤ sizeLine ∧ (DL.cutD (l.map iD) none (some (k : Int)) ++ [o]).length + (DL.cutD (l.map iD) (some ((k : Int) + 1)) none).length ≤ sizeLine ∧ Q (.va (.tuple ((DL.cutD (l.map iD) none (some (k : Int)) ++ [o]) ++ DL.cutD (l.map iD) (some ((k : Int) + 1)) none)))
        rw [ea, eb, sizeLine_eq, List.length_append, List.length_map, List.length_map, List.length_singleton]
        exact ⟨by omega, by omega, by omega, q2 l rfl _ (sv_with (fun x m => hx x (ha x m)) (fun x m => hx x (hb x m)) (odd_it mo) (by omega))⟩
end
end K20

set_option Elab.async false
set_option linter.all false
set_option maxRecDepth 100000
set_option maxHeartbeats 400000
namespace K20
open PySem PySem.Spec PyProof.Rows L2 DL
variable [Tb]
local macro_rules | `(tactic| walk_at "rw") => `(tactic| simp only [d01, d0m, dm0, d10, Rw.toD, rdIn, wds, flatD, List.all_cons, List.all_nil, dw, Bool.true_or, Bool.false_or, Bool.or_false, Bool.or_true, Bool.true_and, Bool.and_true, Bool.false_and, Bool.and_false, Bool.not_true, Bool.not_false, decide_true, decide_false, true_and, and_true, if_true, if_false, Bool.false_eq_true, reduceIte, Nat.zero_add, Nat.reduceAdd, ite_self, wJR, wJL, wJM, wRJ, wRL, wRM, wLJ, wLR, wLM, wMJ, wMR, wML])
local macro_rules | `(tactic| walk_at "st") => `(tactic| simp only [wBo, w2, rdEq2, wNameS, wName, wC, wPart, startD, List.map_cons, List.map_nil, List.cons_append, List.nil_append, getS, AV.sv, rd1, List.length_cons, List.length_nil, List.replicate, endE, frzD, List.set, wOr, wAnd, wNot, wTru, wIs, wIf, wAndV, wOrV, wNotV, wIxC, wNeg, dat_va, dat_fr, sv_va, sv_fr, gtName, gtCons, gtNil, gtTup, wFrz, wBack, wIfS, wAugI, wPar3, wIsN, if_true, if_false, Bool.false_eq_true, Bool.not_true, Bool.not_false, decide_true, decide_false, Nat.sub_zero, Nat.succ_sub_succ_eq_sub, ite_true, ite_false, reduceIte, true_and, and_true, Nat.zero_add, Nat.reduceAdd, qisStrD_str, qisStrD_tup, qisStrD_lst, qisStrD_int, qisStrD_bl, qisStrD_non, qisStrD_dct, qisTupD_str, qisTupD_tup, qisTupD_lst, qisTupD_int, qisTupD_bl, qisTupD_non, qisTupD_dct, qisLstD_str, qisLstD_tup, qisLstD_lst, qisLstD_int, qisLstD_bl, qisLstD_non, qisLstD_dct, qisDctD_str, qisDctD_tup, qisDctD_lst, qisDctD_int, qisDctD_bl, qisDctD_non, qisDctD_dct, qisBooD_str, qisBooD_tup, qisBooD_lst, qisBooD_int, qisBooD_bl, qisBooD_non, qisBooD_dct, qisIntD_str, qisIntD_tup, qisIntD_lst, qisIntD_int, qisIntD_bl, qisIntD_non, qisIntD_dct, qAddI, qAddS, qAddT, qAddL, qInt, qSlT, qSlL, qSlS, qEqI, qEqS, qEqB, qEqN, qEqT, qEqL, qIxT0, qIxT1, qIxT2, qIxL0, qIxL1, qLenT, qLenL, qLenS, qTupT, qTupL, qLstT, qLstL, qIt, qItL, qIntI, qBl, qTrT, qTrL, qTrI, qTrN, qNoN, qNoT, qNoL, qNoI, qNoS])
local macro_rules | `(tactic| walk_at "run") => `(tactic| ((try walk_at "rw"); (try walk_at "st"); (try walk_at "rw")))
local macro_rules | `(tactic| walk_at "dl") => `(tactic| simp only [wBo, w2, rdEq2, dEq, wNameS, wName, wC, startD, List.map_cons, List.map_nil, List.cons_append, List.nil_append, getS, AV.sv, rd1, List.length_cons, List.length_nil, List.replicate, endE, frzD, wBack, List.set, wOr, wAnd, wNot, wTru, wIs, wIf, wAndV, wOrV, wNotV, wIxC, ixC, nthD, dLen, dTuple, dList, dat_va, dat_fr, sv_va, sv_fr, gtName, gtCons, gtNil, gtTup, truD, wFrz, wIfS, if_true, if_false, Bool.false_eq_true, isStrD, isTupD, isLstD, isBooD, isIntD, isDctD, Bool.not_true, Bool.not_false, decide_true, decide_false, Nat.sub_zero, Nat.succ_sub_succ_eq_sub, ite_true, ite_false, reduceIte, true_and, and_true])

def x_lots_within_c1 : XE RV := (xLc [3] (xNameS 1) (xtName 3) xT (xTup (xStar (xNameS 3) (xCons (xName 2) xNil))))
def x_lots_within_b1 : XS := (xSet 1 (x2 gAdd (xNameS 1) (xcl x_lots_within_c1)))
def x_lots_within_l1 : XS := (xFor (xFrzM 0) (xtName 2) x_lots_within_b1)
def x_lots_within : List AV → Option RV := runX (xSeq (xSet 1 (xLst (xCons (xcl (xTup xNil)) xNil)))
    (xFrzB 1 (xSeq x_lots_within_l1
    (xRet (xSl (xNameS 1) (xPart (xC (.int 1))) xoNone))))) 4
theorem mo_lots_within : MoF (fsX x_lots_within) := moX
section
variable {P : Program} {w : World} {K : PySem.W.Frag} {mg : Str → Option Value} {base : Heap}
theorem ok_lots_within (T : Top K mg base) : FnG P w K mg base CX0 (1) T.f_lots_within T.d_lots_within ["lot"] (PSp K 1 (fsX x_lots_within)) := by
  refine fn_data T.F_lots_within sc_lots_within (fun cdv A outer s H E hr => (evb_cons (evs_set 1 (ev_lst (evl_cons (ev_tup evl_nil).cl evl_nil)) sc_lots_within.nd)
    (evb_frz 1 (evb_cons (evs_for (evm_frz 0) (evg_name 2 sc_lots_within.nd) (evb_one (evs_set 1 (evr_op od_add (ev_nameS 1) ((evc_lc (own := [("one", 3)]) (ev_nameS 1) (blkOk_by (N := ["lot", "found", "s", "one"]) (sc := defScope s_lots_within) (by decide +kernel)) (fun _ _ _ _ _ => (evg_name 3 sc_lots_within.nd)) (fun _ _ _ _ _ => evi_nil) (fun _ _ _ _ _ => (ev_tup (evl_star (ev_nameS 3) (evl_cons (ev_name 2) evl_nil))))).rv rfl sc_lots_within.nd).cl) sc_lots_within.nd)) rfl)
    (evb_one (evs_ret (evr_slice (ev_nameS 1) (evo_some ev_int) evo_none))))))) (fun as Q hn hq => yRun (ySeq (ySet (yLst (yCons (ycl (yTup yNil)) yNil))) (yFrzB (ySeq (yFor (yFrzM 0) (ytName 2) (ySet (y2 zAdd (yNameS 1) (ycl (yLc (yNameS 1) (ytName 3) yT (yTup (yStar (yNameS 3) (yCons (yName 2) yNil)))))))) (yRet (ySl (yNameS 1) (yPart (yC _)) yoNone))))) hq)
end
def x_lots : List AV → Option RV := runX (xRet (xCall 1 x_lots_within (xaCons (xcl (xListRg (xNameS 0))) xaNil))) 1
theorem mo_lots : MoF (fsX x_lots) := moX
section
variable {P : Program} {w : World} {K : PySem.W.Frag} {mg : Str → Option Value} {base : Heap}
theorem ok_lots (T : Top K mg base) : FnG P w K mg base CX0 (2) T.f_lots T.d_lots ["n"] (PSp K 1 (fsX x_lots)) := by
  refine fn_data T.F_lots sc_lots (fun cdv A outer s H E hr => (evb_one (evs_ret (evr_call (ok_lots_within T) mo_lots_within (hr.mono (by omega)) T.C_lots_within.hm T.C_lots_within.hk T.C_lots_within.hb (eva_cons (evr_listRg (ev_nameS 0) rfl T.b_list T.b_range).cl eva_nil))))) (fun as Q hn hq => yRun (yRet (yCall (yfsX _) (yaCons (ycl (yListRg (yNameS 0))) yaNil))) hq)
end
def x_number_of_c1 : XE RV := (xLc [1] (xNameS 0) (xtName 1) xT (x2 gShl (xC (.int 1)) (xNameS 1)))
def x_number_of : List AV → Option RV := runX (xRet (x2 gSub (xcl (xBlt (g1 gSum) (xCons (xcl x_number_of_c1) xNil))) (xC (.int 1)))) 2
theorem mo_number_of : MoF (fsX x_number_of) := moX
section
variable {P : Program} {w : World} {K : PySem.W.Frag} {mg : Str → Option Value} {base : Heap}
theorem ok_number_of (T : Top K mg base) : FnG P w K mg base CX0 (1) T.f_number_of T.d_number_of ["lot"] (PSp K 1 (fsX x_number_of)) := by
  refine fn_data T.F_number_of sc_number_of (fun cdv A outer s H E hr => (evb_one (evs_ret (evr_op od_sub (evr_blt (cd_sum rfl) T.b_sum (by decide +kernel) (evl_cons ((evc_lc (own := [("s", 1)]) (ev_nameS 0) (blkOk_by (N := ["lot", "s"]) (sc := defScope s_number_of) (by decide +kernel)) (fun _ _ _ _ _ => (evg_name 1 sc_number_of.nd)) (fun _ _ _ _ _ => evi_nil) (fun _ _ _ _ _ => (evr_op od_shl ev_int (ev_nameS 1)))).rv rfl sc_number_of.nd).cl evl_nil)).cl ev_int)))) (fun as Q hn hq => yRun (yRet (y2 zSub (ycl (yBlt (z1x zSum) (yCons (ycl (yLc (yNameS 0) (ytName 1) yT (y2 zShl (yC _) (yNameS 1)))) yNil))) (yC _))) hq)
end
def x_lot_of : List AV → Option RV := runX (xRet (xBlt (g1 gTuple) (xCons (xcl (xSortedSet (xNameS 0))) xNil))) 1
theorem mo_lot_of : MoF (fsX x_lot_of) := moX
section
variable {P : Program} {w : World} {K : PySem.W.Frag} {mg : Str → Option Value} {base : Heap}
theorem ok_lot_of (T : Top K mg base) : FnG P w K mg base CX0 (1) T.f_lot_of T.d_lot_of ["answers"] (PSp K 1 (fsX x_lot_of)) := by
  refine fn_data T.F_lot_of sc_lot_of (fun cdv A outer s H E hr => (evb_one (evs_ret (evr_typ cd_tuple T.b_tuple (by decide +kernel) (evl_cons (evr_sortedSet (ev_nameS 0) rfl T.b_sorted T.b_set).cl evl_nil))))) (fun as Q hn hq => yRun (yRet (yBlt (z1x zTuple) (yCons (ycl (ySortedSet (yNameS 0))) yNil))) hq)
end
def x__law_lots_c1 : XE RV := (xLc [3] (xNameS 1) (xtName 3) xT (x2 gAdd (xNameS 3) (xcl (xTup (xCons (xName 2) xNil)))))
def x__law_lots_b1 : XS := (xSet 1 (x2 gAdd (xNameS 1) (xcl x__law_lots_c1)))
def x__law_lots_l1 : XS := (xForR (xNameS 0) (xtName 2) x__law_lots_b1)
def x__law_lots : List AV → Option RV := runX (xSeq (xSet 1 (xLst (xCons (xcl (xTup xNil)) xNil)))
    (xFrzB 1 (xSeq x__law_lots_l1
    (xRet (xSl (xNameS 1) (xPart (xC (.int 1))) xoNone))))) 4
theorem mo__law_lots : MoF (fsX x__law_lots) := moX
section
variable {P : Program} {w : World} {K : PySem.W.Frag} {mg : Str → Option Value} {base : Heap}
theorem ok__law_lots (T : Top K mg base) : FnG P w K mg base CX0 (1) T.f__law_lots T.d__law_lots ["_law_n"] (PSp K 1 (fsX x__law_lots)) := by
  refine fn_data T.F__law_lots sc__law_lots (fun cdv A outer s H E hr => (evb_cons (evs_set 1 (ev_lst (evl_cons (ev_tup evl_nil).cl evl_nil)) sc__law_lots.nd)
    (evb_frz 1 (evb_cons (evs_forR (ev_nameS 0) (evg_name 2 sc__law_lots.nd) (evb_one (evs_set 1 (evr_op od_add (ev_nameS 1) ((evc_lc (own := [("_law_lot_here", 3)]) (ev_nameS 1) (blkOk_by (N := ["_law_n", "_law_found", "_law_s", "_law_lot_here"]) (sc := defScope s__law_lots) (by decide +kernel)) (fun _ _ _ _ _ => (evg_name 3 sc__law_lots.nd)) (fun _ _ _ _ _ => evi_nil) (fun _ _ _ _ _ => (evr_op od_add (ev_nameS 3) (ev_tup (evl_cons (ev_name 2) evl_nil)).cl))).rv rfl sc__law_lots.nd).cl) sc__law_lots.nd)) rfl T.b_range)
    (evb_one (evs_ret (evr_slice (ev_nameS 1) (evo_some ev_int) evo_none))))))) (fun as Q hn hq => yRun (ySeq (ySet (yLst (yCons (ycl (yTup yNil)) yNil))) (yFrzB (ySeq (yForR (yNameS 0) (ytName 2) (ySet (y2 zAdd (yNameS 1) (ycl (yLc (yNameS 1) (ytName 3) yT (y2 zAdd (yNameS 3) (ycl (yTup (yCons (yName 2) yNil))))))))) (yRet (ySl (yNameS 1) (yPart (yC _)) yoNone))))) hq)
end
def x__law_number_c1 : XE RV := (xLc [1] (xNameS 0) (xtName 1) xT (x2 gIx (xcl (xLst (xCons (xC (.int 1)) (xCons (xC (.int 2)) (xCons (xC (.int 4)) (xCons (xC (.int 8)) (xCons (xC (.int 16)) (xCons (xC (.int 32)) xNil)))))))) (xNameS 1)))
def x__law_number : List AV → Option RV := runX (xRet (x2 gSub (xcl (xBlt (g1 gSum) (xCons (xcl x__law_number_c1) xNil))) (xC (.int 1)))) 2
theorem mo__law_number : MoF (fsX x__law_number) := moX
section
variable {P : Program} {w : World} {K : PySem.W.Frag} {mg : Str → Option Value} {base : Heap}
theorem ok__law_number (T : Top K mg base) : FnG P w K mg base CX0 (1) T.f__law_number T.d__law_number ["_law_lot_here"] (PSp K 1 (fsX x__law_number)) := by
  refine fn_data T.F__law_number sc__law_number (fun cdv A outer s H E hr => (evb_one (evs_ret (evr_op od_sub (evr_blt (cd_sum rfl) T.b_sum (by decide +kernel) (evl_cons ((evc_lc (own := [("_law_s", 1)]) (ev_nameS 0) (blkOk_by (N := ["_law_lot_here", "_law_s"]) (sc := defScope s__law_number) (by decide +kernel)) (fun _ _ _ _ _ => (evg_name 1 sc__law_number.nd)) (fun _ _ _ _ _ => evi_nil) (fun _ _ _ _ _ => (evr_ix (id_ix hr.rm.units) (ev_lst (evl_cons ev_int (evl_cons ev_int (evl_cons ev_int (evl_cons ev_int (evl_cons ev_int (evl_cons ev_int evl_nil))))))).cl (ev_nameS 1)))).rv rfl sc__law_number.nd).cl evl_nil)).cl ev_int)))) (fun as Q hn hq => yRun (yRet (y2 zSub (ycl (yBlt (z1x zSum) (yCons (ycl (yLc (yNameS 0) (ytName 1) yT (y2 zIx (ycl (yLst (yCons (yC _) (yCons (yC _) (yCons (yC _) (yCons (yC _) (yCons (yC _) (yCons (yC _) yNil)))))))) (yNameS 1)))) yNil))) (yC _))) hq)
end
def x__law_lot_c1 : XE RV := (xLcR [1] (xC (.int 36)) (xtName 1) (xBo (x2 (gIn false) (xNameS 1) (xNameS 0))) (xva (xName 1)))
def x__law_lot : List AV → Option RV := runX (xRet (xBlt (g1 gTuple) (xCons (xcl x__law_lot_c1) xNil))) 2
theorem mo__law_lot : MoF (fsX x__law_lot) := moX
section
variable {P : Program} {w : World} {K : PySem.W.Frag} {mg : Str → Option Value} {base : Heap}
theorem ok__law_lot (T : Top K mg base) : FnG P w K mg base CX0 (1) T.f__law_lot T.d__law_lot ["_law_answers"] (PSp K 1 (fsX x__law_lot)) := by
  refine fn_data T.F__law_lot sc__law_lot (fun cdv A outer s H E hr => (evb_one (evs_ret (evr_typ cd_tuple T.b_tuple (by decide +kernel) (evl_cons ((evc_lcR (own := [("_law_s", 1)]) ev_int (blkOk_by (N := ["_law_answers", "_law_s"]) (sc := defScope s__law_lot) (by decide +kernel)) T.b_range (fun _ _ _ _ _ => (evg_name 1 sc__law_lot.nd)) (fun _ _ _ _ _ => (evi_one (evt_cmp (od_in hr.rm.units) (ev_nameS 1) (ev_nameS 0) (by with_unfolding_all rfl)))) (fun _ _ _ _ _ => (ev_name 1).rv)).rv rfl sc__law_lot.nd).cl evl_nil))))) (fun as Q hn hq => yRun (yRet (yBlt (z1x zTuple) (yCons (ycl (yLcR (yC _) (ytName 1) (yBo (y2 zIn (yNameS 1) (yNameS 0))) (yva (yName 1)))) yNil))) hq)
end
end K20

set_option Elab.async false
set_option linter.all false
set_option maxRecDepth 100000
set_option maxHeartbeats 400000
namespace K20
open PySem PySem.Spec PyProof.Rows L2 DL
variable [Tb]
local macro_rules | `(tactic| walk_at "rw") => `(tactic| simp only [d01, d0m, dm0, d10, Rw.toD, rdIn, wds, flatD, List.all_cons, List.all_nil, dw, Bool.true_or, Bool.false_or, Bool.or_false, Bool.or_true, Bool.true_and, Bool.and_true, Bool.false_and, Bool.and_false, Bool.not_true, Bool.not_false, decide_true, decide_false, true_and, and_true, if_true, if_false, Bool.false_eq_true, reduceIte, Nat.zero_add, Nat.reduceAdd, ite_self, wJR, wJL, wJM, wRJ, wRL, wRM, wLJ, wLR, wLM, wMJ, wMR, wML])
local macro_rules | `(tactic| walk_at "st") => `(tactic| simp only [wBo, w2, rdEq2, wNameS, wName, wC, wPart, startD, List.map_cons, List.map_nil, List.cons_append, List.nil_append, getS, AV.sv, rd1, List.length_cons, List.length_nil, List.replicate, endE, frzD, List.set, wOr, wAnd, wNot, wTru, wIs, wIf, wAndV, wOrV, wNotV, wIxC, wNeg, dat_va, dat_fr, sv_va, sv_fr, gtName, gtCons, gtNil, gtTup, wFrz, wBack, wIfS, wAugI, wPar3, wIsN, if_true, if_false, Bool.false_eq_true, Bool.not_true, Bool.not_false, decide_true, decide_false, Nat.sub_zero, Nat.succ_sub_succ_eq_sub, ite_true, ite_false, reduceIte, true_and, and_true, Nat.zero_add, Nat.reduceAdd, qisStrD_str, qisStrD_tup, qisStrD_lst, qisStrD_int, qisStrD_bl, qisStrD_non, qisStrD_dct, qisTupD_str, qisTupD_tup, qisTupD_lst, qisTupD_int, qisTupD_bl, qisTupD_non, qisTupD_dct, qisLstD_str, qisLstD_tup, qisLstD_lst, qisLstD_int, qisLstD_bl, qisLstD_non, qisLstD_dct, qisDctD_str, qisDctD_tup, qisDctD_lst, qisDctD_int, qisDctD_bl, qisDctD_non, qisDctD_dct, qisBooD_str, qisBooD_tup, qisBooD_lst, qisBooD_int, qisBooD_bl, qisBooD_non, qisBooD_dct, qisIntD_str, qisIntD_tup, qisIntD_lst, qisIntD_int, qisIntD_bl, qisIntD_non, qisIntD_dct, qAddI, qAddS, qAddT, qAddL, qInt, qSlT, qSlL, qSlS, qEqI, qEqS, qEqB, qEqN, qEqT, qEqL, qIxT0, qIxT1, qIxT2, qIxL0, qIxL1, qLenT, qLenL, qLenS, qTupT, qTupL, qLstT, qLstL, qIt, qItL, qIntI, qBl, qTrT, qTrL, qTrI, qTrN, qNoN, qNoT, qNoL, qNoI, qNoS])
local macro_rules | `(tactic| walk_at "run") => `(tactic| ((try walk_at "rw"); (try walk_at "st"); (try walk_at "rw")))
local macro_rules | `(tactic| walk_at "dl") => `(tactic| simp only [wBo, w2, rdEq2, dEq, wNameS, wName, wC, startD, List.map_cons, List.map_nil, List.cons_append, List.nil_append, getS, AV.sv, rd1, List.length_cons, List.length_nil, List.replicate, endE, frzD, wBack, List.set, wOr, wAnd, wNot, wTru, wIs, wIf, wAndV, wOrV, wNotV, wIxC, ixC, nthD, dLen, dTuple, dList, dat_va, dat_fr, sv_va, sv_fr, gtName, gtCons, gtNil, gtTup, truD, wFrz, wIfS, if_true, if_false, Bool.false_eq_true, isStrD, isTupD, isLstD, isBooD, isIntD, isDctD, Bool.not_true, Bool.not_false, decide_true, decide_false, Nat.sub_zero, Nat.succ_sub_succ_eq_sub, ite_true, ite_false, reduceIte, true_and, and_true])

theorem pw6 : ∀ s : _root_.Fin 6, gIx (.list [iD 1, iD 2, iD 4, iD 8, iD 16, iD 32]) (iD s.val) = some (.va (iD (2 ^ s.val))) := by
  intro s
  match s with
  | ⟨0, _⟩ => rfl
  | ⟨1, _⟩ => rfl
  | ⟨2, _⟩ => rfl
  | ⟨3, _⟩ => rfl
  | ⟨4, _⟩ => rfl
  | ⟨5, _⟩ => rfl
theorem e_number {l : List Nat} (h : ∀ x ∈ l, x < 6) (hl : l.length ≤ 1000) : x__law_number [.va (nsD l)] = some (.va (.int ((numN l : Int) - 1))) := by
  have c1 : x__law_number_c1 [.va (nsD l), .un] = some (.fr ((l.map fun s => 2 ^ s).map iD)) := by
    refine (eLc rfl rfl ?_ (lcX_mapV iD (fun s => iD (2 ^ s)) l fun s hs => ⟨_, rfl, rfl, ?_⟩)).trans (by rw [List.map_map]; rfl)
    · rw [lenOk_of (by rw [List.length_map]; omega)]; rfl
    · exact e2 (eclF (eLst (eCons rfl (eCons rfl (eCons rfl (eCons rfl (eCons rfl (eCons rfl eNil)))))) rfl)) rfl (pw6 ⟨s, h s hs⟩)
  exact eRunR (eRet (e2 (eclV (eBlt (eCons (eclF c1) eNil) (gSum_ns _))) rfl rfl))
theorem e_lot {d : PyData} {xs : List Nat} (hd : d = .list (xs.map iD) ∨ d = nsD xs) : x__law_lot [.va d] = some (.va (nsD (lotN xs))) := by
  have c1 : x__law_lot_c1 [.va d, .un] = some (.fr ((lotN xs).map iD)) := by
    refine eLcR (n := 36) rfl (by omega) rfl (lcX_rangeF (fun k => xs.contains k) iD 36 fun k hk => ⟨_, rfl, ?_, fun _ => ⟨_, rfl, rfl⟩⟩)
    refine eBo (e2 rfl rfl ?_)
    rcases hd with rfl | rfl
    · exact (gIn_ns false xs k).2
    · exact (gIn_ns false xs k).1
  exact eRunR (eRet (eBlt (eCons (eclF c1) eNil) rfl))
theorem e_lots : ∀ n : _root_.Fin 7, (match x__law_lots [.va (iD n.val)] with
    | some (.fr ds) => decide (allOf natsOf ds = some (lotsN n.val))
    | _ => false) = true := by decide +kernel
theorem e_lotsN {n : Nat} (hn : n ≤ 6) : x__law_lots [.va (iD n)] = some (.fr ((lotsN n).map nsD)) := by
  have h := e_lots ⟨n, by omega⟩
  split at h
  · rename_i ds e
    have h2 := of_decide_eq_true h
    rw [← allOf_get (fun q => natsOf_get q) h2]; exact e
  · cases h
theorem e_lot_of {d : PyData} {xs : List Nat} {n : Nat} (hd : d = .list (xs.map iD) ∨ d = nsD xs) (hn : n ≤ 36) (hx : ∀ x ∈ xs, x < n) (hl : xs.length ≤ 1000) : x_lot_of [.va d] = some (.va (nsD (lotN xs))) := by
  have q : intsD60 d = some (xs.map fun k : Nat => (k : Int)) := by
    have e : ob (intsOf (xs.map iD)) (fun ns => oif (Nat.ble ns.length 1000 && Nat.ble (lotI ns).length 60) (some ns)) = some (xs.map fun k : Nat => (k : Int)) := by
      rw [intsOf_iD]
      refine eoif ?_ rfl
      have h1 : (lotI (xs.map fun k : Nat => (k : Int))).length ≤ 60 := by
        rw [lotI_lotN hn hx, List.length_map]
        have h2 : (lotN xs).length ≤ (List.range 36).length := List.length_filter_le _ _
        rw [List.length_range] at h2; omega
      rw [Nat.ble_eq_true_of_le (by rw [List.length_map]; omega), Nat.ble_eq_true_of_le h1]; rfl
    rcases hd with rfl | rfl <;> exact e
  refine (eRunR (eRet (eBlt (eCons (eclF (eSortedSet rfl q)) eNil) rfl))).trans ?_
  rw [lotI_lotN hn hx, map_ints]; rfl
theorem sh6 : ∀ s : _root_.Fin 6, gShl (.int 1) (iD s.val) = some (.va (iD (2 ^ s.val))) := by
  intro s
  match s with
  | ⟨0, _⟩ => rfl
  | ⟨1, _⟩ => rfl
  | ⟨2, _⟩ => rfl
  | ⟨3, _⟩ => rfl
  | ⟨4, _⟩ => rfl
  | ⟨5, _⟩ => rfl
theorem e_number_of {l : List Nat} (h : ∀ x ∈ l, x < 6) (hl : l.length ≤ 1000) : x_number_of [.va (nsD l)] = some (.va (.int ((numN l : Int) - 1))) := by
  have c1 : x_number_of_c1 [.va (nsD l), .un] = some (.fr ((l.map fun s => 2 ^ s).map iD)) := by
    refine (eLc (ds := l.map iD) rfl rfl (by rw [lenOk_map (by omega)]; rfl) (lcX_mapV iD (fun s => iD (2 ^ s)) l fun s hs => ⟨_, rfl, rfl, ?_⟩)).trans (by rw [List.map_map]; rfl)
    exact e2 rfl rfl (sh6 ⟨s, h s hs⟩)
  exact eRunR (eRet (e2 (eclV (eBlt (eCons (eclF c1) eNil) (gSum_ns _))) rfl rfl))
theorem ls_all : ∀ n : _root_.Fin 7, (match x_lots [.va (iD n.val)] with
    | some (.fr ds) => decide (allOf natsOf ds = some (lotsN n.val))
    | _ => false) = true := by decide +kernel
theorem e_ls {n : Nat} (hn : n ≤ 6) : x_lots [.va (iD n)] = some (.fr ((lotsN n).map nsD)) := by
  have h := ls_all ⟨n, by omega⟩
  split at h
  · rename_i ds e
    have h2 := of_decide_eq_true h
    rw [← allOf_get (fun q => natsOf_get q) h2]; exact e
  · cases h
end K20

set_option Elab.async false
set_option linter.all false
set_option maxRecDepth 100000
set_option maxHeartbeats 400000
namespace K20
open PySem PySem.Spec PyProof.Rows L2 DL
variable [Tb]
local macro_rules | `(tactic| walk_at "rw") => `(tactic| simp only [d01, d0m, dm0, d10, Rw.toD, rdIn, wds, flatD, List.all_cons, List.all_nil, dw, Bool.true_or, Bool.false_or, Bool.or_false, Bool.or_true, Bool.true_and, Bool.and_true, Bool.false_and, Bool.and_false, Bool.not_true, Bool.not_false, decide_true, decide_false, true_and, and_true, if_true, if_false, Bool.false_eq_true, reduceIte, Nat.zero_add, Nat.reduceAdd, ite_self, wJR, wJL, wJM, wRJ, wRL, wRM, wLJ, wLR, wLM, wMJ, wMR, wML])
local macro_rules | `(tactic| walk_at "st") => `(tactic| simp only [wBo, w2, rdEq2, wNameS, wName, wC, wPart, startD, List.map_cons, List.map_nil, List.cons_append, List.nil_append, getS, AV.sv, rd1, List.length_cons, List.length_nil, List.replicate, endE, frzD, List.set, wOr, wAnd, wNot, wTru, wIs, wIf, wAndV, wOrV, wNotV, wIxC, wNeg, dat_va, dat_fr, sv_va, sv_fr, gtName, gtCons, gtNil, gtTup, wFrz, wBack, wIfS, wAugI, wPar3, wIsN, if_true, if_false, Bool.false_eq_true, Bool.not_true, Bool.not_false, decide_true, decide_false, Nat.sub_zero, Nat.succ_sub_succ_eq_sub, ite_true, ite_false, reduceIte, true_and, and_true, Nat.zero_add, Nat.reduceAdd, qisStrD_str, qisStrD_tup, qisStrD_lst, qisStrD_int, qisStrD_bl, qisStrD_non, qisStrD_dct, qisTupD_str, qisTupD_tup, qisTupD_lst, qisTupD_int, qisTupD_bl, qisTupD_non, qisTupD_dct, qisLstD_str, qisLstD_tup, qisLstD_lst, qisLstD_int, qisLstD_bl, qisLstD_non, qisLstD_dct, qisDctD_str, qisDctD_tup, qisDctD_lst, qisDctD_int, qisDctD_bl, qisDctD_non, qisDctD_dct, qisBooD_str, qisBooD_tup, qisBooD_lst, qisBooD_int, qisBooD_bl, qisBooD_non, qisBooD_dct, qisIntD_str, qisIntD_tup, qisIntD_lst, qisIntD_int, qisIntD_bl, qisIntD_non, qisIntD_dct, qAddI, qAddS, qAddT, qAddL, qInt, qSlT, qSlL, qSlS, qEqI, qEqS, qEqB, qEqN, qEqT, qEqL, qIxT0, qIxT1, qIxT2, qIxL0, qIxL1, qLenT, qLenL, qLenS, qTupT, qTupL, qLstT, qLstL, qIt, qItL, qIntI, qBl, qTrT, qTrL, qTrI, qTrN, qNoN, qNoT, qNoL, qNoI, qNoS])
local macro_rules | `(tactic| walk_at "run") => `(tactic| ((try walk_at "rw"); (try walk_at "st"); (try walk_at "rw")))
local macro_rules | `(tactic| walk_at "dl") => `(tactic| simp only [wBo, w2, rdEq2, dEq, wNameS, wName, wC, startD, List.map_cons, List.map_nil, List.cons_append, List.nil_append, getS, AV.sv, rd1, List.length_cons, List.length_nil, List.replicate, endE, frzD, wBack, List.set, wOr, wAnd, wNot, wTru, wIs, wIf, wAndV, wOrV, wNotV, wIxC, ixC, nthD, dLen, dTuple, dList, dat_va, dat_fr, sv_va, sv_fr, gtName, gtCons, gtNil, gtTup, truD, wFrz, wIfS, if_true, if_false, Bool.false_eq_true, isStrD, isTupD, isLstD, isBooD, isIntD, isDctD, Bool.not_true, Bool.not_false, decide_true, decide_false, Nat.sub_zero, Nat.succ_sub_succ_eq_sub, ite_true, ite_false, reduceIte, true_and, and_true])

def lotOkB (n : Nat) : Bool := ((lotsN n).all fun l => Nat.ble (numN l) 63 && (l.all (fun x => Nat.blt x n) && (Nat.ble l.length 6 && Nat.ble 1 l.length)))
theorem lotOk_all : ∀ n : _root_.Fin 7, lotOkB n.val = true := by decide +kernel
theorem lot_facts {n : Nat} (hn : n ≤ 6) {l : List Nat} (h : l ∈ lotsN n) : numN l ≤ 63 ∧ (∀ x ∈ l, x < n) ∧ l.length ≤ 6 ∧ 1 ≤ l.length := by
  have t := List.all_eq_true.mp (lotOk_all ⟨n, by omega⟩) l h
  simp only [Bool.and_eq_true, List.all_eq_true] at t
  exact ⟨Nat.le_of_ble_eq_true t.1, fun x m => Nat.le_of_ble_eq_true (t.2.1 x m), Nat.le_of_ble_eq_true t.2.2.1, Nat.le_of_ble_eq_true t.2.2.2⟩
def okDB (d : PyData) : Bool := d.showable && (SeqAt.shaped d && Nat.ble d.shown.length 10000)
theorem okD_all : ∀ n : _root_.Fin 7, okDB (.list ((lotsN n.val).map nsD)) = true := by decide +kernel
theorem okD {n : Nat} (hn : n ≤ 6) : okShow (.list ((lotsN n).map nsD)) := by
  have t := okD_all ⟨n, by omega⟩
  unfold okDB at t
  simp only [Bool.and_eq_true] at t
  have sz := sizeLine_eq
  have l := Nat.le_of_ble_eq_true t.2.2
  exact ⟨⟨t.1, t.2.1⟩, by omega⟩
theorem num_last {n : Nat} (h1 : 1 ≤ n) (h6 : n ≤ 6) : (numN (List.range n) : Int) - 1 = ((((lotsN n).map nsD).length : Nat) : Int) - 1 ∧ (lotsN n).length ≤ 63 ∧ 1 ≤ (lotsN n).length := by
  match n, h1, h6 with
  | 1, _, _ => decide
  | 2, _, _ => decide
  | 3, _, _ => decide
  | 4, _, _ => decide
  | 5, _, _ => decide
  | 6, _, _ => decide
theorem ix_last {n : Nat} (h1 : 1 ≤ n) (h6 : n ≤ 6) {Q : RV → Prop} (q : Q (.va (nsD (List.range n)))) : rdIx (.list ((lotsN n).map nsD)) (.int (-1)) Q := by
  match n, h1, h6 with
  | 1, _, _ => exact q
  | 2, _, _ => exact q
  | 3, _, _ => exact q
  | 4, _, _ => exact q
  | 5, _, _ => exact q
  | 6, _, _ => exact q
theorem ix_first {n : Nat} (h1 : 1 ≤ n) (h6 : n ≤ 6) {Q : RV → Prop} (q : Q (.va (nsD [0]))) : ixC 0 (.list ((lotsN n).map nsD)) Q := by
  match n, h1, h6 with
  | 1, _, _ => exact q
  | 2, _, _ => exact q
  | 3, _, _ => exact q
  | 4, _, _ => exact q
  | 5, _, _ => exact q
  | 6, _, _ => exact q
theorem okI3 {a b c : Int} (ha : -1 ≤ a ∧ a < 128) (hb : -1 ≤ b ∧ b < 128) (hc : -1 ≤ c ∧ c < 128) : okShow (.list [.int a, .int b, .int c]) := by
  have sm : ∀ {i : Int}, -1 ≤ i ∧ i < 128 → smI i = true := fun h => decide_eq_true ⟨by omega, h.2⟩
  refine (good_pl ?_ (by simp [PyData.depth, PyData.depthAll]) (by simp [wt, wtL])).show_
  simp only [pl, plL, sm ha, sm hb, sm hc, Bool.and_self]
theorem str_same {s : Str} {K : RV → Prop} (h : K (.va (.bool false))) : rdEq2 true (.str s) (.str s) K := by
  show K (.va (.bool (!decide (s = s))))
  rw [decide_eq_true rfl]
  exact h
theorem ifeq_then {A B : WD} {sd : SD} {s : Str} {t e : WS} {E : ED} (hA : ∀ K : PyData → Prop, K (.str s) → A sd K) (hB : ∀ K : PyData → Prop, K (.str s) → B sd K) (h : e E sd) : wIfS (wBo (w2 (rdEq2 true) A B)) t e E sd :=
  wbo2_then (d1 := .str s) (d2 := .str s) (b := false) hA hB (fun _ h => str_same h) (if_neg Bool.false_ne_true ▸ h)
theorem al_nats {n : Nat} : ∀ {ds out : List PyData}, Al (fun _ x => ∃ k : Nat, k < n ∧ x = iD k) ds out → ∃ ks : List Nat, out = ks.map iD ∧ ks.length = ds.length ∧ ∀ k ∈ ks, k < n
  | _, _, .nil => ⟨[], rfl, rfl, fun _ h => by cases h⟩
  | _, _, .cons ⟨k, hk, e⟩ t => by
    obtain ⟨ks, h1, h2, h3⟩ := al_nats t
    refine ⟨k :: ks, by rw [e, h1]; rfl, by rw [List.length_cons, List.length_cons, h2], fun j m => ?_⟩
    rcases List.mem_cons.mp m with rfl | m
    · exact hk
    · exact h3 j m
theorem w2ix_at {wb : WD} {i : Nat} {sd : SD} {d e : PyData} {Q : RV → Prop} (g : getS sd i = .va d) (hb : ∀ K : PyData → Prop, K e → wb sd K) (h : rdIx d e Q) : w2 rdIx (wNameS i) wb sd Q := wNameS_at g (hb _ h)
theorem ixC_at {n i : Nat} {sd : SD} {d : PyData} {Q : RV → Prop} (g : getS sd i = .va d) (h : ixC n d Q) : wIxC n (wNameS i) sd Q := wNameS_at g h
theorem num_same {a b c : Int} {K : PyData → Prop} (e : b = c) (ok : okShow (.list [.int a, .int b, .int 0])) (h : K (.str (PyData.shown (.list [.int a, .int b, .int 0])))) : rd1 dReprX [.list [.int a, .int c, .int 0]] fun r => K r.dat := by
  subst e
  exact ⟨.inl ok, h⟩
theorem lotsA_mem (c : Nat → Bool) : ∀ n, (List.range n).filter c ∈ lotsA n
  | 0 => by simp [lotsA]
  | n + 1 => by
    rw [List.range_succ, List.filter_append]
    unfold lotsA
    have ih := lotsA_mem c n
    cases h : c n with
    | true =>
      refine List.mem_append_right _ (List.mem_map.mpr ⟨_, ih, ?_⟩)
      rw [List.filter_cons, if_pos h]; rfl
    | false =>
      refine List.mem_append_left _ ?_
      rw [List.filter_cons, if_neg (by rw [h]; exact Bool.false_ne_true), List.filter_nil, List.append_nil]
      exact ih
theorem lotsA_head : ∀ n, lotsA n = [] :: lotsN n
  | 0 => rfl
  | n + 1 => by
    unfold lotsN lotsA
    rw [lotsA_head n]
    rfl
theorem lot_in {n : Nat} {xs : List Nat} (hn : n ≤ 36) (h : ∀ x ∈ xs, x < n) (h0 : xs ≠ []) : lotN xs ∈ lotsN n := by
  have m := lotsA_mem (fun k => xs.contains k) n
  rw [← lotN_eq hn h, lotsA_head] at m
  rcases List.mem_cons.mp m with e | m
  · exact absurd e (lotN_ne hn h h0)
  · exact m
theorem okP_all : ∀ n : _root_.Fin 7, ((lotsN n.val).all fun l => okDB (.list [nsD l, nsD l])) = true := by decide +kernel
theorem okP2 {n : Nat} (hn : n ≤ 6) {l : List Nat} (h : l ∈ lotsN n) : okShow (.list [nsD l, nsD l]) ∨ okShowN (.list [nsD l, nsD l]) := by
  have t := List.all_eq_true.mp (okP_all ⟨n, by omega⟩) l h
  unfold okDB at t
  simp only [Bool.and_eq_true] at t
  have sz := sizeLine_eq
  have l := Nat.le_of_ble_eq_true t.2.2
  exact .inl ⟨⟨t.1, t.2.1⟩, by omega⟩
theorem bent_go {l : List Nat} {Q : RV → Prop} (hx : ∀ x ∈ l, x < 36) (hl : l.length ≤ 36) (h0 : 0 < l.length) (h : ∀ o, Sv o → Q (.va o)) : fs__law_bent 4 [.so, .va (nsD l), .va (.int 2)] Q := ⟨nsD l, 2, rfl, by decide, .inr ⟨l, rfl, hx, hl, h0⟩, fun o mo => h o (odd_sv mo), fun _ _ o so => h o so⟩
def slV : SV → Prop | .un => True | .va _ => True | _ => False
theorem ok_b (b : Bool) : okShow (.bool b) := (good_pl (by cases b <;> rfl) (by decide +revert) (by decide +revert)).show_
section
variable {P : Program} {w : World} {K : PySem.W.Frag} {mg : Str → Option Value} {base : Heap}
theorem ok_law (T : Top K mg base) : FnG P w K mg base CX0 30 T.f_law T.d_law ["_law_script"] (spLaw K) := by
  refine fn_body T.F_law sc_law (fun vs H Q E ⟨a, ns, e, _⟩ => by rw [e]; rfl) fun cdv A outer s H vs Q E hr hsp => ?_
  obtain ⟨a, ns, rfl, hS, hlen, tabs, q⟩ := hsp
  have nd := sc_law.nd
  refine ⟨_, (pss_cons (ps_set (i := 1) nd rfl (by first | exact Or.inl rfl | exact Or.inr rfl) (pe_callG (ok__law_open_cells T) (hr.mono (by omega)) (by rfl) T.C__law_open_cells.hm T.C__law_open_cells.hk T.C__law_open_cells.hb pass0 (pa_cons (pv 0) pa_nil)))
    (EvB.ps (X := (cxOf CX0 P w K mg base ["_law_script", "_law_source", "_law_n", "_law_due", "_law_lap", "_law_told", "_law_lot_here", "_law_some", "_law_shown", "_law_values", "_law_value"] "law" (defScope s_law) T.f_law cdv A outer s H E).nox) (evb_cons (evs_forR2 ev_int ev_int (evg_name 2 sc_law.nd) (evb_cons (evs_set 3 (evr_call (ok__law_lots T) mo__law_lots (hr.mono (by omega)) T.C__law_lots.hm T.C__law_lots.hk T.C__law_lots.hb (eva_cons (ev_name 2) eva_nil)) sc_law.nd)
     (evb_frz 3 (evb_cons (evs_forR ev_int (evg_name 4 sc_law.nd) (evb_cons (evs_set 5 (evr_call (ok_lots T) mo_lots (hr.mono (by omega)) T.C_lots.hm T.C_lots.hk T.C_lots.hb (eva_cons (ev_name 2) eva_nil)) sc_law.nd)
      (evb_cons (evs_ifS (evt_cmp (od_ne2 hr.rm.units) (evr_blt (cd_reprX (hr.mono (by omega))) T.b_repr (by decide +kernel) (evl_cons (ev_nameS 5).bo evl_nil)).cl (evr_blt (cd_reprX (hr.mono (by omega))) T.b_repr (by decide +kernel) (evl_cons (ev_nameS 3).bo evl_nil)).cl) (evb_one (evs_ret (ev_bl).rv)) evb_nil)
      (evb_one (evs_append 5 (ev_non).rv)))) rfl T.b_range)
     (evb_cons (evs_set 6 (evr_ix (id_ix hr.rm.units) (ev_nameS 3) (evr_call (ok__law_pick T) mo__law_pick (hr.mono (by omega)) T.C__law_pick.hm T.C__law_pick.hk T.C__law_pick.hb (eva_so 1 (eva_cons (evr_blt cd_len T.b_len (by decide +kernel) (evl_cons (ev_nameS 3) evl_nil)).cl eva_nil))).cl) sc_law.nd)
     (evb_cons (evs_ifS (evt_cmp (od_ne2 hr.rm.units) (evr_blt (cd_reprX (hr.mono (by omega))) T.b_repr (by decide +kernel) (evl_cons (ev_lst (evl_cons (evr_call (ok_number_of T) mo_number_of (hr.mono (by omega)) T.C_number_of.hm T.C_number_of.hk T.C_number_of.hb (eva_cons (ev_name 6) eva_nil)).cl (evl_cons (evr_call (ok_number_of T) mo_number_of (hr.mono (by omega)) T.C_number_of.hm T.C_number_of.hk T.C_number_of.hb (eva_cons (evr_ix (id_ix hr.rm.units) (ev_nameS 3) (evr_neg ev_int).cl).cl eva_nil)).cl (evl_cons (evr_call (ok_number_of T) mo_number_of (hr.mono (by omega)) T.C_number_of.hm T.C_number_of.hk T.C_number_of.hb (eva_cons (evr_ixC 0 (ev_nameS 3)).cl eva_nil)).cl evl_nil)))).cl evl_nil)).cl (evr_blt (cd_reprX (hr.mono (by omega))) T.b_repr (by decide +kernel) (evl_cons (ev_lst (evl_cons (evr_call (ok__law_number T) mo__law_number (hr.mono (by omega)) T.C__law_number.hm T.C__law_number.hk T.C__law_number.hb (eva_cons (ev_name 6) eva_nil)).cl (evl_cons (evr_op od_sub (evr_blt cd_len T.b_len (by decide +kernel) (evl_cons (ev_nameS 3) evl_nil)).cl ev_int).cl (evl_cons ev_int evl_nil)))).cl evl_nil)).cl) (evb_one (evs_ret (ev_bl).rv)) evb_nil)
     (evb_cons (evs_setLC 7 (evc_lcR (own := [("_law_lap", 4)]) (evr_op od_add ev_int (evr_call (ok__law_pick T) mo__law_pick (hr.mono (by omega)) T.C__law_pick.hm T.C__law_pick.hk T.C__law_pick.hb (eva_so 1 (eva_cons ev_int eva_nil))).cl).cl (blkOk_by (N := ["_law_script", "_law_source", "_law_n", "_law_due", "_law_lap", "_law_told", "_law_lot_here", "_law_some", "_law_shown", "_law_values", "_law_value"]) (sc := defScope s_law) (by decide +kernel)) T.b_range (fun _ _ _ _ _ => (evg_name 4 sc_law.nd)) (fun _ _ _ _ _ => evi_nil) (fun _ _ _ _ _ => (evr_call (ok__law_pick T) mo__law_pick (hr.mono (by omega)) T.C__law_pick.hm T.C__law_pick.hk T.C__law_pick.hb (eva_so 1 (eva_cons (ev_name 2) eva_nil))))) rfl sc_law.nd)
     (evb_frz 7 (evb_cons (evs_set 8 (evr_blt (cd_reprX (hr.mono (by omega))) T.b_repr (by decide +kernel) (evl_cons (ev_nameS 7).bo evl_nil)) sc_law.nd)
     (evb_cons (evs_ifS (evw_or (evt_cmp (od_ne2 hr.rm.units) (evr_blt (cd_reprX (hr.mono (by omega))) T.b_repr (by decide +kernel) (evl_cons (ev_lst (evl_cons (evr_call (ok_lot_of T) mo_lot_of (hr.mono (by omega)) T.C_lot_of.hm T.C_lot_of.hk T.C_lot_of.hb (eva_cons (ev_name 7) eva_nil)).cl (evl_cons (evr_call (ok_lot_of T) mo_lot_of (hr.mono (by omega)) T.C_lot_of.hm T.C_lot_of.hk T.C_lot_of.hb (eva_cons (evr_typ cd_tuple T.b_tuple (by decide +kernel) (evl_cons (ev_nameS 7) evl_nil)).cl eva_nil)).cl evl_nil))).cl evl_nil)).cl (evr_blt (cd_reprX (hr.mono (by omega))) T.b_repr (by decide +kernel) (evl_cons (evr_op od_mul (ev_lst (evl_cons (evr_call (ok__law_lot T) mo__law_lot (hr.mono (by omega)) T.C__law_lot.hm T.C__law_lot.hk T.C__law_lot.hb (eva_cons (ev_name 7) eva_nil)).cl evl_nil)).cl ev_int).cl evl_nil)).cl) (evw_or1 (evt_cmp (od_ne2 hr.rm.units) (evr_blt (cd_reprX (hr.mono (by omega))) T.b_repr (by decide +kernel) (evl_cons (ev_nameS 7).bo evl_nil)).cl (ev_nameS 8).bo))).t (evb_one (evs_ret (ev_bl).rv)) evb_nil)
     (evb_cons (evs_set 9 (ev_lst (evl_cons (ev_name 6) (evl_cons (evr_back (ev_nameS 6)).cl (evl_cons (evr_op od_add (ev_nameS 6) (evr_slice (ev_nameS 6) (evo_some (evr_neg ev_int).cl) evo_none).cl).cl (evl_cons (evr_op od_add (ev_nameS 6) (ev_tup (evl_cons (ev_name 2) evl_nil)).cl).cl (evl_cons (evr_op od_add (ev_tup (evl_cons (evr_op od_sub ev_int ev_int).cl evl_nil)).cl (ev_nameS 6)).cl (evl_cons (evr_typ cd_list T.b_list (by decide +kernel) (evl_cons (ev_nameS 6) evl_nil)).cl (evl_cons (ev_tup evl_nil).cl (evl_cons (ev_tup (evl_cons ev_bl evl_nil)).cl (evl_cons (ev_tup (evl_cons ev_bl evl_nil)).cl evl_nil)))))))))) sc_law.nd)
     (evb_frz 9 (evb_one (evs_for (evr_op od_add (ev_nameS 9) (ev_lst (evl_cons (ev_tup (evl_cons ev_int (evl_cons ev_non evl_nil))).cl (evl_cons (evr_call (ok__law_lot T) mo__law_lot (hr.mono (by omega)) T.C__law_lot.hm T.C__law_lot.hk T.C__law_lot.hb (eva_cons (ev_name 7) eva_nil)).cl (evl_cons (evr_call (ok__law_bent T 4) (mo__law_bent 4) (hr.mono (by omega)) T.C__law_bent.hm T.C__law_bent.hk T.C__law_bent.hb (eva_so 1 (eva_cons (ev_name 6) (eva_cons ev_int eva_nil)))).cl (evl_cons (evr_call (ok__law_any_odd T) mo__law_any_odd (hr.mono (by omega)) T.C__law_any_odd.hm T.C__law_any_odd.hk T.C__law_any_odd.hb (eva_so 1 eva_nil)).cl (evl_cons ev_str evl_nil)))))).cl).m (evg_name 10 sc_law.nd) (evb_cons (evs_set 8 (evr_blt (cd_reprX (hr.mono (by omega))) T.b_repr (by decide +kernel) (evl_cons (ev_nameS 10).bo evl_nil)) sc_law.nd)
      (evb_one (evs_ifS (evw_or (evt_cmp (od_ne2 hr.rm.units) (evr_blt (cd_reprX (hr.mono (by omega))) T.b_repr (by decide +kernel) (evl_cons (evr_call (ok_is_lot T) mo_is_lot (hr.mono (by omega)) T.C_is_lot.hm T.C_is_lot.hk T.C_is_lot.hb (eva_cons (ev_name 10) (eva_cons (ev_name 2) eva_nil))).cl evl_nil)).cl (evr_blt (cd_reprX (hr.mono (by omega))) T.b_repr (by decide +kernel) (evl_cons (evr_call (ok__law_is_lot T) mo__law_is_lot (hr.mono (by omega)) T.C__law_is_lot.hm T.C__law_is_lot.hk T.C__law_is_lot.hb (eva_cons (ev_name 10) (eva_cons (ev_name 2) eva_nil))).cl evl_nil)).cl) (evw_or1 (evt_cmp (od_ne2 hr.rm.units) (evr_blt (cd_reprX (hr.mono (by omega))) T.b_repr (by decide +kernel) (evl_cons (ev_nameS 10).bo evl_nil)).cl (ev_nameS 8).bo))).t (evb_one (evs_ret (ev_bl).rv)) evb_nil))) rfl))))))))))))) rfl T.b_range)
    (evb_one (evs_ret (ev_bl).rv))))).nox, ?_⟩
  refine ⟨_, rfl, a, ns, rfl, hS, hlen, fun H1 d c sm hd hc sa => ?_⟩
  refine ⟨⟨K, H1, d :: c :: Tb.Ts, d :: c :: Tb.Ts, []⟩, [.un, .so, .un, .un, .un, .un, .un, .un, .un, .un, .un], List.replicate 11 none, endE (fun z => z = .va (.bool true)), rfl, ?_, ?_, ?_⟩
  · have no : ∀ (a : Addr), some a ∉ List.replicate 11 (none : Option Addr) := fun a m => by
      have := List.eq_of_mem_replicate m
      cases this
    refine ⟨Ext.refl, ⟨.inr ⟨d, c, rfl, sa⟩, fun P m => by obtain ⟨ps, e, ok⟩ := tabs P m; exact ⟨ps, sm _ _ e, ok⟩⟩, fun _ h => h, fun a m => .inl m, rfl, rfl, fun i s v oa g1 g2 g3 => ?_, fun i j a g1 _ => absurd (List.mem_of_getElem? g1) (no a), fun p m => (by cases m), fun a m => absurd m (no a)⟩
    have e3 : oa = none := List.eq_of_mem_replicate (List.mem_of_getElem? g3)
    subst e3
    match i, g1, g2 with
    | 0, g1, g2 => cases g1; rfl
    | 1, g1, g2 => cases g1; cases g2; exact ⟨rfl, d, c, rfl, rfl⟩
    | 2, g1, g2 => cases g1; rfl
    | 3, g1, g2 => cases g1; rfl
    | 4, g1, g2 => cases g1; rfl
    | 5, g1, g2 => cases g1; rfl
    | 6, g1, g2 => cases g1; rfl
    | 7, g1, g2 => cases g1; rfl
    | 8, g1, g2 => cases g1; rfl
    | 9, g1, g2 => cases g1; rfl
    | 10, g1, g2 => cases g1; rfl
    | n + 11, g1, g2 => cases g1
  · refine ⟨fun sd os σ H' r z => (nomatch (show RV.va .none = RV.va (.bool true) from z)), fun _ _ _ _ _ z => False.elim z, fun _ _ _ _ _ z => False.elim z, fun z v H' x rv e => ?_⟩
    have e : z = .va (.bool true) := e
    subst e
    have rv : Dx _ _ v (.bool true) := rv
    cases rv
    exact q H'
  refine ⟨by decide, by decide, ?_⟩
  refine forW_inv (fun ds sd => (∀ d ∈ ds, ∃ n : Nat, 1 ≤ n ∧ n ≤ 6 ∧ d = iD n) ∧ ∃ x2 x3 x4 x5 x6 x7 x8 x9 x10 : SV, sd = [.un, .so, x2, x3, x4, x5, x6, x7, x8, x9, x10] ∧ slV x4) ?_ ?_ _ _ ⟨fun d m => ?_, _, _, _, _, _, _, _, _, _, rfl, trivial⟩
  · rintro sd ⟨_, x2, x3, x4, x5, x6, x7, x8, x9, x10, rfl, p4⟩
    exact rfl
  · rintro d ds sd k hk ⟨hd, x2, x3, x4, x5, x6, x7, x8, x9, x10, rfl, p4⟩
    obtain ⟨n, n1, n6, rfl⟩ := hd d List.mem_cons_self
    have hk : ∀ x2 x3 x4 x5 x6 x7 x8 x9 x10 : SV, slV x4 → k [.un, .so, x2, x3, x4, x5, x6, x7, x8, x9, x10] := fun _ _ _ _ _ _ _ _ _ p => hk _ ⟨fun d m => hd d (List.mem_cons_of_mem _ m), _, _, _, _, _, _, _, _, _, rfl, p⟩
    refine gt_go ?_
    refine ⟨rfl, fsX_of (e_lotsN n6) ?_⟩
    have okd := okD n6
    have ln := num_last n1 n6
    refine ⟨by decide, ?_⟩
    refine forW_inv (fun ds sd => ∃ y4 y5 : SV, sd = [.un, .so, .va (iD n), .va (.list ((lotsN n).map nsD)), y4, y5, x6, x7, x8, x9, x10] ∧ slV y4) ?_ ?_ _ _ ⟨_, _, rfl, p4⟩
    rotate_left
    · rintro d2 ds2 sd k2 hk2 ⟨y4, y5, rfl, q4⟩
      refine gt_go ?_
      refine ⟨rfl, fsX_of (e_ls n6) ?_⟩
      dsimp only
      refine ifeq_then (fun K h => ⟨.inl okd, h⟩) (fun K h => ⟨.inl okd, h⟩) ?_
      refine ⟨?_, hk2 _ ⟨_, _, rfl, trivial⟩⟩
      rw [List.length_map, sizeLine_eq]
      omega
    rintro sd ⟨y4, y5, rfl, p4⟩
    refine ⟨rfl, pk (by show (((lotsN n).map nsD).length : Int) < 2 ^ 20; rw [List.length_map]; omega) fun i i0 i1 => rdIx_all i0 (by have i1 : i < (((lotsN n).map nsD).length : Int) ∨ i = 0 := i1; rw [List.length_map] at i1 ⊢; omega) fun v hv => ?_⟩
    obtain ⟨l, ml, rfl⟩ := List.mem_map.mp hv
    have lf := lot_facts n6 ml
    have s3 : 3 ≤ sizeLine := by decide
    have e1 := e_number_of (l := l) (fun x m => by have := lf.2.1 x m; omega) (by omega)
    have e2 := e_number_of (l := List.range n) (fun x m => by have := List.mem_range.mp m; omega) (by rw [List.length_range]; omega)
    have e3 : x_number_of [.va (nsD [0])] = some (.va (.int 0)) := e_number_of (l := [0]) (fun x m => by rw [List.mem_singleton.mp m]; decide) (by decide)
    have e4 := e_number (l := l) (fun x m => by have := lf.2.1 x m; omega) (by omega)
    have ok3 := okI3 (a := (numN l : Int) - 1) (b := (numN (List.range n) : Int) - 1) (c := 0) (by omega) (by rw [ln.1, List.length_map]; omega) (by decide)
    dsimp only
    refine ifeq_then (s := PyData.shown (.list [.int ((numN l : Int) - 1), .int ((numN (List.range n) : Int) - 1), .int 0])) (fun K h => ⟨rfl, fsX_of e1 (w2ix_at (d := .list ((lotsN n).map nsD)) (e := .int (-1)) rfl (fun K h => h) (ix_last n1 n6 ⟨rfl, fsX_of e2 (ixC_at (d := .list ((lotsN n).map nsD)) rfl (ix_first n1 n6 ⟨rfl, fsX_of e3 ⟨s3, .inl ok3, h⟩⟩))⟩))⟩)
      (fun K h => ⟨rfl, fsX_of e4 ⟨trivial, s3, num_same ln.1 ok3 h⟩⟩) ?_
    refine ⟨rfl, pk (by decide) fun j j0 j1 => ?_⟩
    refine ⟨by omega, ⟨by cases y4 <;> first | rfl | exact p4.elim, by omega⟩, ?_⟩
    refine lcW_each (fun _ e => ∃ x : Nat, x < n ∧ e = iD x) _ _ (fun d _ A B hA => ⟨rfl, pk (by show (n : Int) < 2 ^ 20; omega) fun r r0 r1 => hA _ ⟨r.toNat, by omega, by show PyData.int _ = PyData.int _; congr 1; omega⟩⟩) fun out ho => ?_
    obtain ⟨xs, rfl, hl, hxs⟩ := al_nats ho
    have hl : xs.length = (1 + j).toNat := by rw [hl]; unfold rangeD; rw [List.length_map, List.length_range]
    have svs := sv_nl (p := xs) (fun x m => by have := hxs x m; omega) (by omega)
    have lw := e_lot (d := .list (xs.map iD)) (xs := xs) (.inl rfl)
    have lo1 := e_lot_of (d := .list (xs.map iD)) (xs := xs) (n := n) (.inl rfl) (by omega) hxs (by omega)
    have lo2 := e_lot_of (d := nsD xs) (xs := xs) (n := n) (.inr rfl) (by omega) hxs (by omega)
    have mx : lotN xs ∈ lotsN n := lot_in (by omega) hxs (fun e => by rw [e] at hl; simp only [List.length_nil] at hl; omega)
    have fx := lot_facts n6 mx
    have okP := okP2 n6 mx
    have hx36 : ∀ x ∈ l, x < 36 := fun x m => by have := lf.2.1 x m; omega
    have s1 : 1 ≤ sizeLine := by decide
    have s0 : 0 ≤ sizeLine := by decide
    have sz := sizeLine_eq
    have ll : (l.map iD).length = l.length := List.length_map _
    refine ⟨svs.sh, ?_⟩
    refine ifor_then (b1 := false) (b2 := false) (fun K h => wbo2_then (d1 := .str (PyData.shown (.list [nsD (lotN xs), nsD (lotN xs)]))) (d2 := .str (PyData.shown (.list [nsD (lotN xs), nsD (lotN xs)]))) (fun K h => ⟨rfl, fsX_of lo1 ⟨rfl, fsX_of lo2 ⟨sl2, okP, h⟩⟩⟩) (fun K h => ⟨rfl, fsX_of lw ⟨s1, ⟨⟨by decide, by decide, by show 1 ≤ 1000; decide⟩, okP, h⟩⟩⟩) (fun K h => str_same h) h)
      (fun K h => wbo2_then (d1 := .str (PyData.shown (.list (xs.map iD)))) (d2 := .str (PyData.shown (.list (xs.map iD)))) (fun K h => ⟨svs.sh, h⟩) (fun K h => h) (fun K h => str_same h) h) (ite3 (fun hf => absurd hf Bool.false_ne_true) (fun _ => ?_))
    obtain ⟨t1, et, ht, lt⟩ := cut_ns l (some (-1)) none
    have s9 : 9 ≤ sizeLine := by decide
    have s5 : 5 ≤ sizeLine := by decide
    refine ⟨by show (l.map iD).length + (DL.cutD (l.map iD) (some (-1)) none).length ≤ sizeLine; rw [et, ll, List.length_map]; omega, s1, by show (l.map iD).length + 1 ≤ sizeLine; omega, trivial, s1, by show 1 + (l.map iD).length ≤ sizeLine; omega, s0, s1, s1, s9, ?_⟩
    refine ⟨sl2, rfl, fsX_of lw ⟨rfl, bent_go hx36 (by omega) (by omega) fun o1 so1 => ⟨rfl, rfl, fun o2 mo2 => ⟨s5, by show 9 + 5 ≤ sizeLine; decide, ?_⟩⟩⟩⟩
    refine forW_inv (fun ds sd => (∀ v ∈ ds, Sv v) ∧ ∃ y3 y5 y6 y7 y8 y9 y10 : SV, sd = [.un, .so, .va (iD n), y3, y4, y5, y6, y7, y8, y9, y10]) ?_ ?_ _ _ ⟨?_, _, _, _, _, _, _, _, rfl⟩
    · rintro sd ⟨_, y3, y5, y6, y7, y8, y9, y10, rfl⟩
      exact hk _ _ _ _ _ _ _ _ _ p4
    · rintro v vs sd k2 hk2 ⟨hv, y3, y5, y6, y7, y8, y9, y10, rfl⟩
      have v0 := hv v List.mem_cons_self
      refine gt_go ?_
      refine ⟨v0.sh, ?_⟩
      dsimp only
      refine ifor_then (b1 := false) (b2 := false) (fun K h => wbo2_then (d1 := .str (PyData.shown (.bool (lotB n v)))) (d2 := .str (PyData.shown (.bool (lotB n v)))) (fun K h => ⟨rfl, v, n, rfl, v0.ln, .inl (ok_b _), h⟩) (fun K h => ⟨rfl, v, n, rfl, v0.ln, .inl (ok_b _), h⟩) (fun K h => str_same h) h)
        (fun K h => wbo2_then (d1 := .str v.shown) (d2 := .str v.shown) (fun K h => ⟨v0.sh, h⟩) (fun K h => h) (fun K h => str_same h) h) (ite3 (fun hf => absurd hf Bool.false_ne_true) (fun _ => ?_))
      exact hk2 _ ⟨fun y m => hv y (List.mem_cons_of_mem _ m), _, _, _, _, _, _, _, rfl⟩
    · intro v m
      rw [et] at m
      simp only [List.cons_append, List.nil_append, List.mem_cons, List.not_mem_nil, or_false] at m
      have h36 : ∀ x ∈ lotN xs, x < 36 := fun x m => by have := fx.2.1 x m; omega
      have w1 : itB (.int (0 - 1)) = true := by decide +kernel
      rcases m with rfl | rfl | rfl | rfl | rfl | rfl | rfl | rfl | rfl | rfl | rfl | rfl | rfl | rfl
      · exact sv_ns hx36 (by omega)
      · have e := sv_ns (p := l.reverse) (fun x m => hx36 x (List.mem_reverse.mp m)) (by rw [List.length_reverse]; omega)
        unfold nsD at e
        rw [List.map_reverse] at e
        exact e
      · have e := sv_ns (p := l ++ t1) (fun x m => by
          rcases List.mem_append.mp m with m | m
          · exact hx36 x m
          · exact hx36 x (ht x m)) (by rw [List.length_append]; omega)
        unfold nsD at e
        rw [List.map_append] at e
        exact e
      · have e := sv_ns (p := l ++ [n]) (fun x m => by
          rcases List.mem_append.mp m with m | m
          · exact hx36 x m
          · rw [List.mem_singleton.mp m]; omega) (by rw [List.length_append, List.length_singleton]; omega)
        unfold nsD at e
        rw [List.map_append] at e
        exact e
      · exact sv_with (a := []) (b := l) (fun x m => by cases m) hx36 w1 (by rw [List.length_nil]; omega)
      · exact sv_nl hx36 (by omega)
      · exact sv_of (by decide +kernel)
      · exact sv_of (by decide +kernel)
      · exact sv_of (by decide +kernel)
      · exact sv_of (by decide +kernel)
      · exact sv_ns h36 (by omega)
      · exact so1
      · exact odd_sv mo2
      · exact sv_of (by decide +kernel)
  · unfold rangeD at m
    obtain ⟨k, mk, rfl⟩ := List.mem_map.mp m
    have := List.mem_range.mp mk
    exact ⟨k + 1, by omega, by omega, by show PyData.int _ = PyData.int _; congr 1; omega⟩
end

end K20

set_option Elab.async false
set_option linter.all false
set_option maxRecDepth 100000
set_option maxHeartbeats 4000000
namespace K20
open PySem PySem.Spec PyProof.Rows L2 DL
local macro_rules | `(tactic| walk_at "rw") => `(tactic| simp only [d01, d0m, dm0, d10, Rw.toD, rdIn, wds, flatD, List.all_cons, List.all_nil, dw, Bool.true_or, Bool.false_or, Bool.or_false, Bool.or_true, Bool.true_and, Bool.and_true, Bool.false_and, Bool.and_false, Bool.not_true, Bool.not_false, decide_true, decide_false, true_and, and_true, if_true, if_false, Bool.false_eq_true, reduceIte, Nat.zero_add, Nat.reduceAdd, ite_self, wJR, wJL, wJM, wRJ, wRL, wRM, wLJ, wLR, wLM, wMJ, wMR, wML])
local macro_rules | `(tactic| walk_at "st") => `(tactic| simp only [wBo, w2, rdEq2, wNameS, wName, wC, wPart, startD, List.map_cons, List.map_nil, List.cons_append, List.nil_append, getS, AV.sv, rd1, List.length_cons, List.length_nil, List.replicate, endE, frzD, List.set, wOr, wAnd, wNot, wTru, wIs, wIf, wAndV, wOrV, wNotV, wIxC, wNeg, dat_va, dat_fr, sv_va, sv_fr, gtName, gtCons, gtNil, gtTup, wFrz, wBack, wIfS, wAugI, wPar3, wIsN, if_true, if_false, Bool.false_eq_true, Bool.not_true, Bool.not_false, decide_true, decide_false, Nat.sub_zero, Nat.succ_sub_succ_eq_sub, ite_true, ite_false, reduceIte, true_and, and_true, Nat.zero_add, Nat.reduceAdd, qisStrD_str, qisStrD_tup, qisStrD_lst, qisStrD_int, qisStrD_bl, qisStrD_non, qisStrD_dct, qisTupD_str, qisTupD_tup, qisTupD_lst, qisTupD_int, qisTupD_bl, qisTupD_non, qisTupD_dct, qisLstD_str, qisLstD_tup, qisLstD_lst, qisLstD_int, qisLstD_bl, qisLstD_non, qisLstD_dct, qisDctD_str, qisDctD_tup, qisDctD_lst, qisDctD_int, qisDctD_bl, qisDctD_non, qisDctD_dct, qisBooD_str, qisBooD_tup, qisBooD_lst, qisBooD_int, qisBooD_bl, qisBooD_non, qisBooD_dct, qisIntD_str, qisIntD_tup, qisIntD_lst, qisIntD_int, qisIntD_bl, qisIntD_non, qisIntD_dct, qAddI, qAddS, qAddT, qAddL, qInt, qSlT, qSlL, qSlS, qEqI, qEqS, qEqB, qEqN, qEqT, qEqL, qIxT0, qIxT1, qIxT2, qIxL0, qIxL1, qLenT, qLenL, qLenS, qTupT, qTupL, qLstT, qLstL, qIt, qItL, qIntI, qBl, qTrT, qTrL, qTrI, qTrN, qNoN, qNoT, qNoL, qNoI, qNoS])
local macro_rules | `(tactic| walk_at "run") => `(tactic| ((try walk_at "rw"); (try walk_at "st"); (try walk_at "rw")))
local macro_rules | `(tactic| walk_at "dl") => `(tactic| simp only [wBo, w2, rdEq2, dEq, wNameS, wName, wC, startD, List.map_cons, List.map_nil, List.cons_append, List.nil_append, getS, AV.sv, rd1, List.length_cons, List.length_nil, List.replicate, endE, frzD, wBack, List.set, wOr, wAnd, wNot, wTru, wIs, wIf, wAndV, wOrV, wNotV, wIxC, ixC, nthD, dLen, dTuple, dList, dat_va, dat_fr, sv_va, sv_fr, gtName, gtCons, gtNil, gtTup, truD, wFrz, wIfS, if_true, if_false, Bool.false_eq_true, isStrD, isTupD, isLstD, isBooD, isIntD, isDctD, Bool.not_true, Bool.not_false, decide_true, decide_false, Nat.sub_zero, Nat.succ_sub_succ_eq_sub, ite_true, ite_false, reduceIte, true_and, and_true])

theorem all_mk {l : PySem.W.OpenLaw} {q : Program} {w : World} {K : PySem.W.Frag} {h : Heap} {mg : Str → Option Value} {fa f1 f2 f3 f4 f5 f6 f7 f8 f9 f10 f11 f12 f13 f14 f15 f16 f17 f18 f19 : Addr} (X : K.In h) (G : h.Ns mainGlobals mg) (hfa : mg "law" = some (.ref fa)) (W : OwnT q mg h)
    {od1 an1 od2 an2 od3 an3 od4 an4 od5 an5 od6 an6 od7 an7 od8 an8 od9 an9 od10 an10 od11 an11 od12 an12 od13 an13 od14 an14 od15 an15 od16 an16 od17 an17 od18 an18 od19 an19 : Option Addr} {sl1 sl2 sl3 sl4 sl5 sl6 sl7 sl8 sl9 sl10 sl11 sl12 sl13 sl14 sl15 sl16 sl17 sl18 sl19 : Array (Option Value)} {oc1 kV1 dc1 pm1 ct1 oc2 kV2 dc2 pm2 ct2 oc3 kV3 dc3 pm3 ct3 oc4 kV4 dc4 pm4 ct4 oc5 kV5 dc5 pm5 ct5 oc6 kV6 dc6 pm6 ct6 oc7 kV7 dc7 pm7 ct7 oc8 kV8 dc8 pm8 ct8 oc9 kV9 dc9 pm9 ct9 oc10 kV10 dc10 pm10 ct10 oc11 kV11 dc11 pm11 ct11 oc12 kV12 dc12 pm12 ct12 oc13 kV13 dc13 pm13 ct13 oc14 kV14 dc14 pm14 ct14 oc15 kV15 dc15 pm15 ct15 oc16 kV16 dc16 pm16 ct16 oc17 kV17 dc17 pm17 ct17 oc18 kV18 dc18 pm18 ct18 oc19 kV19 dc19 pm19 ct19 cd1 cd2 cd5 cd6 cd7 cd8 cd9 cd10 cd11 cd12 cd13 cd14 cd15 cd16 cd17 cd18 cd19 : Value} {t3 t4 : Addr}
    (a1 : PySem.W.nsIn K mainGlobals "is_number" = some (some (.ref f1))) (l1 : K.lookup f1 = some ⟨oc1, od1, .func (PySem.W.fnOf "is_number" "is_number" (defArgs s_is_number) (defBody s_is_number) (defScope s_is_number) .none kV1 dc1 pm1 an1 cd1 ct1), sl1⟩) (c1 : PySem.W.codeIn K cd1 "is_number" = true) (k1 : PySem.W.keepIn K (.ref f1) = true)
    (a2 : PySem.W.nsIn K mainGlobals "is_answer" = some (some (.ref f2))) (l2 : K.lookup f2 = some ⟨oc2, od2, .func (PySem.W.fnOf "is_answer" "is_answer" (defArgs s_is_answer) (defBody s_is_answer) (defScope s_is_answer) .none kV2 dc2 pm2 an2 cd2 ct2), sl2⟩) (c2 : PySem.W.codeIn K cd2 "is_answer" = true) (k2 : PySem.W.keepIn K (.ref f2) = true)
    (a3 : PySem.W.nsIn K mainGlobals "are_answers" = some (some (.ref f3))) (l3 : K.lookup f3 = some ⟨oc3, od3, .func (PySem.W.fnOf "are_answers" "are_answers" (defArgs s_are_answers) (defBody s_are_answers) (defScope s_are_answers) .none kV3 dc3 pm3 an3 (.ref t3) ct3), sl3⟩) (c3 : PySem.W.codeIn K (.ref t3) "are_answers" = true) (k3 : PySem.W.keepIn K (.ref f3) = true)
    (a4 : PySem.W.nsIn K mainGlobals "ascend" = some (some (.ref f4))) (l4 : K.lookup f4 = some ⟨oc4, od4, .func (PySem.W.fnOf "ascend" "ascend" (defArgs s_ascend) (defBody s_ascend) (defScope s_ascend) .none kV4 dc4 pm4 an4 (.ref t4) ct4), sl4⟩) (c4 : PySem.W.codeIn K (.ref t4) "ascend" = true) (k4 : PySem.W.keepIn K (.ref f4) = true)
    (a5 : PySem.W.nsIn K mainGlobals "lots" = some (some (.ref f5))) (l5 : K.lookup f5 = some ⟨oc5, od5, .func (PySem.W.fnOf "lots" "lots" (defArgs s_lots) (defBody s_lots) (defScope s_lots) .none kV5 dc5 pm5 an5 cd5 ct5), sl5⟩) (c5 : PySem.W.codeIn K cd5 "lots" = true) (k5 : PySem.W.keepIn K (.ref f5) = true)
    (a6 : PySem.W.nsIn K mainGlobals "lots_within" = some (some (.ref f6))) (l6 : K.lookup f6 = some ⟨oc6, od6, .func (PySem.W.fnOf "lots_within" "lots_within" (defArgs s_lots_within) (defBody s_lots_within) (defScope s_lots_within) .none kV6 dc6 pm6 an6 cd6 ct6), sl6⟩) (c6 : PySem.W.codeIn K cd6 "lots_within" = true) (k6 : PySem.W.keepIn K (.ref f6) = true)
    (a7 : PySem.W.nsIn K mainGlobals "number_of" = some (some (.ref f7))) (l7 : K.lookup f7 = some ⟨oc7, od7, .func (PySem.W.fnOf "number_of" "number_of" (defArgs s_number_of) (defBody s_number_of) (defScope s_number_of) .none kV7 dc7 pm7 an7 cd7 ct7), sl7⟩) (c7 : PySem.W.codeIn K cd7 "number_of" = true) (k7 : PySem.W.keepIn K (.ref f7) = true)
    (a8 : PySem.W.nsIn K mainGlobals "is_lot" = some (some (.ref f8))) (l8 : K.lookup f8 = some ⟨oc8, od8, .func (PySem.W.fnOf "is_lot" "is_lot" (defArgs s_is_lot) (defBody s_is_lot) (defScope s_is_lot) .none kV8 dc8 pm8 an8 cd8 ct8), sl8⟩) (c8 : PySem.W.codeIn K cd8 "is_lot" = true) (k8 : PySem.W.keepIn K (.ref f8) = true)
    (a9 : PySem.W.nsIn K mainGlobals "lot_of" = some (some (.ref f9))) (l9 : K.lookup f9 = some ⟨oc9, od9, .func (PySem.W.fnOf "lot_of" "lot_of" (defArgs s_lot_of) (defBody s_lot_of) (defScope s_lot_of) .none kV9 dc9 pm9 an9 cd9 ct9), sl9⟩) (c9 : PySem.W.codeIn K cd9 "lot_of" = true) (k9 : PySem.W.keepIn K (.ref f9) = true)
    (a10 : PySem.W.nsIn K mainGlobals "_law_open_cells" = some (some (.ref f10))) (l10 : K.lookup f10 = some ⟨oc10, od10, .func (PySem.W.fnOf "_law_open_cells" "_law_open_cells" (defArgs s__law_open_cells) (defBody s__law_open_cells) (defScope s__law_open_cells) .none kV10 dc10 pm10 an10 cd10 ct10), sl10⟩) (c10 : PySem.W.codeIn K cd10 "_law_open_cells" = true) (k10 : PySem.W.keepIn K (.ref f10) = true)
    (a11 : PySem.W.nsIn K mainGlobals "_law_pick" = some (some (.ref f11))) (l11 : K.lookup f11 = some ⟨oc11, od11, .func (PySem.W.fnOf "_law_pick" "_law_pick" (defArgs s__law_pick) (defBody s__law_pick) (defScope s__law_pick) .none kV11 dc11 pm11 an11 cd11 ct11), sl11⟩) (c11 : PySem.W.codeIn K cd11 "_law_pick" = true) (k11 : PySem.W.keepIn K (.ref f11) = true)
    (a12 : PySem.W.nsIn K mainGlobals "_law_lots" = some (some (.ref f12))) (l12 : K.lookup f12 = some ⟨oc12, od12, .func (PySem.W.fnOf "_law_lots" "_law_lots" (defArgs s__law_lots) (defBody s__law_lots) (defScope s__law_lots) .none kV12 dc12 pm12 an12 cd12 ct12), sl12⟩) (c12 : PySem.W.codeIn K cd12 "_law_lots" = true) (k12 : PySem.W.keepIn K (.ref f12) = true)
    (a13 : PySem.W.nsIn K mainGlobals "_law_number" = some (some (.ref f13))) (l13 : K.lookup f13 = some ⟨oc13, od13, .func (PySem.W.fnOf "_law_number" "_law_number" (defArgs s__law_number) (defBody s__law_number) (defScope s__law_number) .none kV13 dc13 pm13 an13 cd13 ct13), sl13⟩) (c13 : PySem.W.codeIn K cd13 "_law_number" = true) (k13 : PySem.W.keepIn K (.ref f13) = true)
    (a14 : PySem.W.nsIn K mainGlobals "_law_lot" = some (some (.ref f14))) (l14 : K.lookup f14 = some ⟨oc14, od14, .func (PySem.W.fnOf "_law_lot" "_law_lot" (defArgs s__law_lot) (defBody s__law_lot) (defScope s__law_lot) .none kV14 dc14 pm14 an14 cd14 ct14), sl14⟩) (c14 : PySem.W.codeIn K cd14 "_law_lot" = true) (k14 : PySem.W.keepIn K (.ref f14) = true)
    (a15 : PySem.W.nsIn K mainGlobals "_law_any_odd" = some (some (.ref f15))) (l15 : K.lookup f15 = some ⟨oc15, od15, .func (PySem.W.fnOf "_law_any_odd" "_law_any_odd" (defArgs s__law_any_odd) (defBody s__law_any_odd) (defScope s__law_any_odd) .none kV15 dc15 pm15 an15 cd15 ct15), sl15⟩) (c15 : PySem.W.codeIn K cd15 "_law_any_odd" = true) (k15 : PySem.W.keepIn K (.ref f15) = true)
    (a16 : PySem.W.nsIn K mainGlobals "_law_bent" = some (some (.ref f16))) (l16 : K.lookup f16 = some ⟨oc16, od16, .func (PySem.W.fnOf "_law_bent" "_law_bent" (defArgs s__law_bent) (defBody s__law_bent) (defScope s__law_bent) .none kV16 dc16 pm16 an16 cd16 ct16), sl16⟩) (c16 : PySem.W.codeIn K cd16 "_law_bent" = true) (k16 : PySem.W.keepIn K (.ref f16) = true)
    (a17 : PySem.W.nsIn K mainGlobals "_law_is_tuple" = some (some (.ref f17))) (l17 : K.lookup f17 = some ⟨oc17, od17, .func (PySem.W.fnOf "_law_is_tuple" "_law_is_tuple" (defArgs s__law_is_tuple) (defBody s__law_is_tuple) (defScope s__law_is_tuple) .none kV17 dc17 pm17 an17 cd17 ct17), sl17⟩) (c17 : PySem.W.codeIn K cd17 "_law_is_tuple" = true) (k17 : PySem.W.keepIn K (.ref f17) = true)
    (a18 : PySem.W.nsIn K mainGlobals "_law_is_lot" = some (some (.ref f18))) (l18 : K.lookup f18 = some ⟨oc18, od18, .func (PySem.W.fnOf "_law_is_lot" "_law_is_lot" (defArgs s__law_is_lot) (defBody s__law_is_lot) (defScope s__law_is_lot) .none kV18 dc18 pm18 an18 cd18 ct18), sl18⟩) (c18 : PySem.W.codeIn K cd18 "_law_is_lot" = true) (k18 : PySem.W.keepIn K (.ref f18) = true)
    (a19 : PySem.W.nsIn K mainGlobals "law" = some (some (.ref f19))) (l19 : K.lookup f19 = some ⟨oc19, od19, .func (PySem.W.fnOf "law" "law" (defArgs s_law) (defBody s_law) (defScope s_law) .none kV19 dc19 pm19 an19 cd19 ct19), sl19⟩) (c19 : PySem.W.codeIn K cd19 "law" = true) (k19 : PySem.W.keepIn K (.ref f19) = true)
    (z1 : PySem.W.nsIn K mainGlobals "abs" = some none)
    (z2 : PySem.W.nsIn K mainGlobals "all" = some none)
    (z3 : PySem.W.nsIn K mainGlobals "any" = some none)
    (z4 : PySem.W.nsIn K mainGlobals "bool" = some none)
    (z5 : PySem.W.nsIn K mainGlobals "int" = some none)
    (z6 : PySem.W.nsIn K mainGlobals "isinstance" = some none)
    (z7 : PySem.W.nsIn K mainGlobals "len" = some none)
    (z8 : PySem.W.nsIn K mainGlobals "list" = some none)
    (z9 : PySem.W.nsIn K mainGlobals "range" = some none)
    (z10 : PySem.W.nsIn K mainGlobals "repr" = some none)
    (z11 : PySem.W.nsIn K mainGlobals "set" = some none)
    (z12 : PySem.W.nsIn K mainGlobals "sorted" = some none)
    (z13 : PySem.W.nsIn K mainGlobals "sum" = some none)
    (z14 : PySem.W.nsIn K mainGlobals "tuple" = some none)
    (z15 : PySem.W.nsIn K mainGlobals "zip" = some none)
    (r3 : ((recsOf q).any fun e => e.name == "are_answers") = true) (s3 : (K.lookup t3).isSome = true) (n3 : K.lookup (tabO K t3) = none)
    (r4 : ((recsOf q).any fun e => e.name == "ascend") = true) (s4 : (K.lookup t4).isSome = true) (n4 : K.lookup (tabO K t4) = none) :
    ∃ (cs : List (Addr × Addr)) (fd : FuncData), TabsAt K h cs ∧ (∀ (s : Shared) (v : Value), BindsTo s fd ⟨[v], []⟩ [("_law_script", v)]) ∧ ∀ base : Heap, K.In base → base.Ns mainGlobals mg → (∀ p ∈ cs, GxR.TabB base mg p.1 p.2) → FnG l.prog w K mg base CX0 30 fa fd ["_law_script"] (@spLaw ⟨cs.map (·.2)⟩ K) := by
  letI : Tb := ⟨List.map (fun p : Addr × Addr => p.2) ([(t3, tabO K t3), (t4, tabO K t4)] : List (Addr × Addr))⟩
  have e := hfa.symm.trans (PySem.W.mg_of X G a19)
  cases e
  have F1 := fun_mk (st := s_is_number) l1 c1 k1
  have F2 := fun_mk (st := s_is_answer) l2 c2 k2
  have F3 := fun_mk (st := s_are_answers) l3 c3 k3
  have F4 := fun_mk (st := s_ascend) l4 c4 k4
  have F5 := fun_mk (st := s_lots) l5 c5 k5
  have F6 := fun_mk (st := s_lots_within) l6 c6 k6
  have F7 := fun_mk (st := s_number_of) l7 c7 k7
  have F8 := fun_mk (st := s_is_lot) l8 c8 k8
  have F9 := fun_mk (st := s_lot_of) l9 c9 k9
  have F10 := fun_mk (st := s__law_open_cells) l10 c10 k10
  have F11 := fun_mk (st := s__law_pick) l11 c11 k11
  have F12 := fun_mk (st := s__law_lots) l12 c12 k12
  have F13 := fun_mk (st := s__law_number) l13 c13 k13
  have F14 := fun_mk (st := s__law_lot) l14 c14 k14
  have F15 := fun_mk (st := s__law_any_odd) l15 c15 k15
  have F16 := fun_mk (st := s__law_bent) l16 c16 k16
  have F17 := fun_mk (st := s__law_is_tuple) l17 c17 k17
  have F18 := fun_mk (st := s__law_is_lot) l18 c18 k18
  have F19 := fun_mk (st := s_law) l19 c19 k19
  have b1 := F1.binds (ps := ["value"]) fun _ _ _ _ _ _ us hl => match us, hl with | [_], _ => rfl
  have C1 : Cal K mg "is_number" f1 _ ["value"] := ⟨PySem.W.mg_of X G a1, k1, b1⟩
  have b2 := F2.binds (ps := ["value", "n"]) fun _ _ _ _ _ _ us hl => match us, hl with | [_, _], _ => rfl
  have C2 : Cal K mg "is_answer" f2 _ ["value", "n"] := ⟨PySem.W.mg_of X G a2, k2, b2⟩
  have b3 := F3.binds (ps := ["value", "n"]) fun _ _ _ _ _ _ us hl => match us, hl with | [_, _], _ => rfl
  have C3 : Cal K mg "are_answers" f3 _ ["value", "n"] := ⟨PySem.W.mg_of X G a3, k3, b3⟩
  have b4 := F4.binds (ps := ["things"]) fun _ _ _ _ _ _ us hl => match us, hl with | [_], _ => rfl
  have C4 : Cal K mg "ascend" f4 _ ["things"] := ⟨PySem.W.mg_of X G a4, k4, b4⟩
  have b5 := F5.binds (ps := ["n"]) fun _ _ _ _ _ _ us hl => match us, hl with | [_], _ => rfl
  have C5 : Cal K mg "lots" f5 _ ["n"] := ⟨PySem.W.mg_of X G a5, k5, b5⟩
  have b6 := F6.binds (ps := ["lot"]) fun _ _ _ _ _ _ us hl => match us, hl with | [_], _ => rfl
  have C6 : Cal K mg "lots_within" f6 _ ["lot"] := ⟨PySem.W.mg_of X G a6, k6, b6⟩
  have b7 := F7.binds (ps := ["lot"]) fun _ _ _ _ _ _ us hl => match us, hl with | [_], _ => rfl
  have C7 : Cal K mg "number_of" f7 _ ["lot"] := ⟨PySem.W.mg_of X G a7, k7, b7⟩
  have b8 := F8.binds (ps := ["value", "n"]) fun _ _ _ _ _ _ us hl => match us, hl with | [_, _], _ => rfl
  have C8 : Cal K mg "is_lot" f8 _ ["value", "n"] := ⟨PySem.W.mg_of X G a8, k8, b8⟩
  have b9 := F9.binds (ps := ["answers"]) fun _ _ _ _ _ _ us hl => match us, hl with | [_], _ => rfl
  have C9 : Cal K mg "lot_of" f9 _ ["answers"] := ⟨PySem.W.mg_of X G a9, k9, b9⟩
  have b10 := F10.binds (ps := ["_law_script"]) fun _ _ _ _ _ _ us hl => match us, hl with | [_], _ => rfl
  have C10 : Cal K mg "_law_open_cells" f10 _ ["_law_script"] := ⟨PySem.W.mg_of X G a10, k10, b10⟩
  have b11 := F11.binds (ps := ["_law_source", "_law_most"]) fun _ _ _ _ _ _ us hl => match us, hl with | [_, _], _ => rfl
  have C11 : Cal K mg "_law_pick" f11 _ ["_law_source", "_law_most"] := ⟨PySem.W.mg_of X G a11, k11, b11⟩
  have b12 := F12.binds (ps := ["_law_n"]) fun _ _ _ _ _ _ us hl => match us, hl with | [_], _ => rfl
  have C12 : Cal K mg "_law_lots" f12 _ ["_law_n"] := ⟨PySem.W.mg_of X G a12, k12, b12⟩
  have b13 := F13.binds (ps := ["_law_lot_here"]) fun _ _ _ _ _ _ us hl => match us, hl with | [_], _ => rfl
  have C13 : Cal K mg "_law_number" f13 _ ["_law_lot_here"] := ⟨PySem.W.mg_of X G a13, k13, b13⟩
  have b14 := F14.binds (ps := ["_law_answers"]) fun _ _ _ _ _ _ us hl => match us, hl with | [_], _ => rfl
  have C14 : Cal K mg "_law_lot" f14 _ ["_law_answers"] := ⟨PySem.W.mg_of X G a14, k14, b14⟩
  have b15 := F15.binds (ps := ["_law_source"]) fun _ _ _ _ _ _ us hl => match us, hl with | [_], _ => rfl
  have C15 : Cal K mg "_law_any_odd" f15 _ ["_law_source"] := ⟨PySem.W.mg_of X G a15, k15, b15⟩
  have b16 := F16.binds (ps := ["_law_source", "_law_value", "_law_deep"]) fun _ _ _ _ _ _ us hl => match us, hl with | [_, _, _], _ => rfl
  have C16 : Cal K mg "_law_bent" f16 _ ["_law_source", "_law_value", "_law_deep"] := ⟨PySem.W.mg_of X G a16, k16, b16⟩
  have b17 := F17.binds (ps := ["_law_value", "_law_many", "_law_n"]) fun _ _ _ _ _ _ us hl => match us, hl with | [_, _, _], _ => rfl
  have C17 : Cal K mg "_law_is_tuple" f17 _ ["_law_value", "_law_many", "_law_n"] := ⟨PySem.W.mg_of X G a17, k17, b17⟩
  have b18 := F18.binds (ps := ["_law_value", "_law_n"]) fun _ _ _ _ _ _ us hl => match us, hl with | [_, _], _ => rfl
  have C18 : Cal K mg "_law_is_lot" f18 _ ["_law_value", "_law_n"] := ⟨PySem.W.mg_of X G a18, k18, b18⟩
  have w3 := own_at (qual := "are_answers") (st := s_are_answers) W X r3 (PySem.W.mg_of X G a3) l3 rfl rfl s3
  have w4 := own_at (qual := "ascend") (st := s_ascend) W X r4 (PySem.W.mg_of X G a4) l4 rfl rfl s4
  refine ⟨[(t3, tabO K t3), (t4, tabO K t4)], PySem.W.fnOf "law" "law" (defArgs s_law) (defBody s_law) (defScope s_law) .none kV19 dc19 pm19 an19 cd19 ct19, ⟨?_, ?_, ?_⟩, fun s v => .of_eq rfl, fun base _ _ TB => ?_⟩
  · exact fun p m => by
      rcases List.mem_cons.mp m with rfl | m
      · exact w3.1
      rcases List.mem_cons.mp m with rfl | m
      · exact w4.1
      cases m
  · exact fun p m => by
      rcases List.mem_cons.mp m with rfl | m
      · exact n3
      rcases List.mem_cons.mp m with rfl | m
      · exact n4
      cases m
  · exact fun p m => by
      rcases List.mem_cons.mp m with rfl | m
      · exact w3.2
      rcases List.mem_cons.mp m with rfl | m
      · exact w4.2
      cases m
  let T : Top K mg base := { f_is_number := _, d_is_number := _, F_is_number := F1, C_is_number := C1, f_is_answer := _, d_is_answer := _, F_is_answer := F2, C_is_answer := C2, f_are_answers := _, d_are_answers := _, F_are_answers := F3, C_are_answers := C3, t_are_answers := t3, p_are_answers := tabO K t3, G_are_answers := ⟨rfl, TB (t3, tabO K t3) List.mem_cons_self, List.mem_cons_self⟩, f_ascend := _, d_ascend := _, F_ascend := F4, C_ascend := C4, t_ascend := t4, p_ascend := tabO K t4, G_ascend := ⟨rfl, TB (t4, tabO K t4) (List.mem_cons_of_mem _ List.mem_cons_self), (List.mem_cons_of_mem _ List.mem_cons_self)⟩, f_lots := _, d_lots := _, F_lots := F5, C_lots := C5, f_lots_within := _, d_lots_within := _, F_lots_within := F6, C_lots_within := C6, f_number_of := _, d_number_of := _, F_number_of := F7, C_number_of := C7, f_is_lot := _, d_is_lot := _, F_is_lot := F8, C_is_lot := C8, f_lot_of := _, d_lot_of := _, F_lot_of := F9, C_lot_of := C9, f__law_open_cells := _, d__law_open_cells := _, F__law_open_cells := F10, C__law_open_cells := C10, f__law_pick := _, d__law_pick := _, F__law_pick := F11, C__law_pick := C11, f__law_lots := _, d__law_lots := _, F__law_lots := F12, C__law_lots := C12, f__law_number := _, d__law_number := _, F__law_number := F13, C__law_number := C13, f__law_lot := _, d__law_lot := _, F__law_lot := F14, C__law_lot := C14, f__law_any_odd := _, d__law_any_odd := _, F__law_any_odd := F15, C__law_any_odd := C15, f__law_bent := _, d__law_bent := _, F__law_bent := F16, C__law_bent := C16, f__law_is_tuple := _, d__law_is_tuple := _, F__law_is_tuple := F17, C__law_is_tuple := C17, f__law_is_lot := _, d__law_is_lot := _, F__law_is_lot := F18, C__law_is_lot := C18, f_law := _, d_law := _, F_law := F19, b_abs := PySem.W.mg_none_of X G z1, b_all := PySem.W.mg_none_of X G z2, b_any := PySem.W.mg_none_of X G z3, b_bool := PySem.W.mg_none_of X G z4, b_int := PySem.W.mg_none_of X G z5, b_isinstance := PySem.W.mg_none_of X G z6, b_len := PySem.W.mg_none_of X G z7, b_list := PySem.W.mg_none_of X G z8, b_range := PySem.W.mg_none_of X G z9, b_repr := PySem.W.mg_none_of X G z10, b_set := PySem.W.mg_none_of X G z11, b_sorted := PySem.W.mg_none_of X G z12, b_sum := PySem.W.mg_none_of X G z13, b_tuple := PySem.W.mg_none_of X G z14, b_zip := PySem.W.mg_none_of X G z15 }
  exact ok_law T
theorem walk {l : PySem.W.OpenLaw} {q : Program} {loose : List Str} {XP : (Str → Option Value) → Heap → Prop} {YP : World → Heap → Prop} {d : DefRec} {K : Params → PySem.W.Frag} (hn : l.most = some 63) (hdf : d.params.defaults = [])
    (hY : ∀ (w : World) (h : Heap), YP w h → (K w.params).In h)
    (F : ∀ (w : World) (mg : Str → Option Value) (fa : Addr) (h : Heap), (K w.params).In h → h.Ns mainGlobals mg → mg d.name = some (.ref fa) → OwnT q mg h →
      ∃ (cs : List (Addr × Addr)) (fd : FuncData), TabsAt (K w.params) h cs ∧ (∀ (s : Shared) (u : Value), BindsTo s fd ⟨[u], []⟩ [("_law_script", u)]) ∧
        ∀ base : Heap, (K w.params).In base → base.Ns mainGlobals mg → (∀ p ∈ cs, GxR.TabB base mg p.1 p.2) → FnG l.prog w (K w.params) mg base CX0 30 fa fd ["_law_script"] (@spLaw ⟨cs.map (·.2)⟩ (K w.params))) :
    PySem.W.WalkO q loose XP YP l.row.toRowW d [] (fun f vs => PySem.call f vs) :=
  walkT (k := 30) hn hdf ⟨⟨rfl, by decide, by decide⟩, rfl⟩ hY F
end K20
open PySem PySem.W PyProof.Rows
set_option maxRecDepth 100000 in
set_option maxHeartbeats 0 in
theorem PySem.Challenge.cw_everrows_k20_lots_holds : PySem.Challenge.rw_everrows_k20_lots.Holds := by
  w_on; o_law; k_head; (case hw => w_witness2)
  k_fill
  refine K20.walk (l := PySem.Challenge.rw_everrows_k20_lots) rfl rfl (fun w h Y => PySem.W.kIn_of Y) ?F
  case F =>
    intro w mg fa h KX G hmg W
    refine' K20.all_mk KX G hmg W ?a1 ?l1 ?c1 ?k1 ?a2 ?l2 ?c2 ?k2 ?a3 ?l3 ?c3 ?k3 ?a4 ?l4 ?c4 ?k4 ?a5 ?l5 ?c5 ?k5 ?a6 ?l6 ?c6 ?k6 ?a7 ?l7 ?c7 ?k7 ?a8 ?l8 ?c8 ?k8 ?a9 ?l9 ?c9 ?k9 ?a10 ?l10 ?c10 ?k10 ?a11 ?l11 ?c11 ?k11 ?a12 ?l12 ?c12 ?k12 ?a13 ?l13 ?c13 ?k13 ?a14 ?l14 ?c14 ?k14 ?a15 ?l15 ?c15 ?k15 ?a16 ?l16 ?c16 ?k16 ?a17 ?l17 ?c17 ?k17 ?a18 ?l18 ?c18 ?k18 ?a19 ?l19 ?c19 ?k19 ?z1 ?z2 ?z3 ?z4 ?z5 ?z6 ?z7 ?z8 ?z9 ?z10 ?z11 ?z12 ?z13 ?z14 ?z15 ?r3 ?s3 ?n3 ?r4 ?s4 ?n4
    (case a1 => k_is); (case l1 => k_is); (case c1 => k_is); (case k1 => k_is)
    (case a2 => k_is); (case l2 => k_is); (case c2 => k_is); (case k2 => k_is)
    (case a3 => k_is); (case l3 => k_is); (case c3 => k_is); (case k3 => k_is)
    (case a4 => k_is); (case l4 => k_is); (case c4 => k_is); (case k4 => k_is)
    (case a5 => k_is); (case l5 => k_is); (case c5 => k_is); (case k5 => k_is)
    (case a6 => k_is); (case l6 => k_is); (case c6 => k_is); (case k6 => k_is)
    (case a7 => k_is); (case l7 => k_is); (case c7 => k_is); (case k7 => k_is)
    (case a8 => k_is); (case l8 => k_is); (case c8 => k_is); (case k8 => k_is)
    (case a9 => k_is); (case l9 => k_is); (case c9 => k_is); (case k9 => k_is)
    (case a10 => k_is); (case l10 => k_is); (case c10 => k_is); (case k10 => k_is)
    (case a11 => k_is); (case l11 => k_is); (case c11 => k_is); (case k11 => k_is)
    (case a12 => k_is); (case l12 => k_is); (case c12 => k_is); (case k12 => k_is)
    (case a13 => k_is); (case l13 => k_is); (case c13 => k_is); (case k13 => k_is)
    (case a14 => k_is); (case l14 => k_is); (case c14 => k_is); (case k14 => k_is)
    (case a15 => k_is); (case l15 => k_is); (case c15 => k_is); (case k15 => k_is)
    (case a16 => k_is); (case l16 => k_is); (case c16 => k_is); (case k16 => k_is)
    (case a17 => k_is); (case l17 => k_is); (case c17 => k_is); (case k17 => k_is)
    (case a18 => k_is); (case l18 => k_is); (case c18 => k_is); (case k18 => k_is)
    (case a19 => k_is); (case l19 => k_is); (case c19 => k_is); (case k19 => k_is)
    (case z1 => k_is); (case z2 => k_is); (case z3 => k_is); (case z4 => k_is); (case z5 => k_is); (case z6 => k_is); (case z7 => k_is); (case z8 => k_is); (case z9 => k_is); (case z10 => k_is); (case z11 => k_is); (case z12 => k_is); (case z13 => k_is); (case z14 => k_is); (case z15 => k_is)
    (case r3 => decide +kernel); (case s3 => exact (rfl : _ = true)); (case n3 => exact (rfl : _ = none))
    (case r4 => decide +kernel); (case s4 => exact (rfl : _ = true)); (case n4 => exact (rfl : _ = none))
