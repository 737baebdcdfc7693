import PyProof.Rows.All
import Wide.All
import OpenK.AllK
import Wide.FinOn
import HandS.Base
import HandS.Call
import HandS.List
import HandS.Ends
import HandS.Words
import HandS.Dict
import PyProof.ReprRoads
import HandS.ForMost
import HandS.IsInst
import HandS.RaiseMore
import HandS.DeepEq
import HandS.Walk
import HandS.Style
import PyProof.ReprLen
import PyProof.FitsInt
import PyProof.Rows.RegStrFacts
import PyProof.Rows.StrMul
import PyProof.Rows.StrCase
import PyProof.Rows.StrFit
import PyProof.StrBlock2
import KE.KIndexOf
import PySem.Challenge.RW_plancalls_k11_kinds_known
set_option Elab.async false
set_option linter.all false
set_option maxRecDepth 100000
/-! AL1: a def's promise where no repr runs around it (FnG), its rule, its call, the law's head. -/
namespace AL
open PySem PySem.Spec PyProof.Rows L2

/-- the interpreter's own table of modules stands in the heap at the entry -/
def SM (bs : Heap) : Prop := ∃ o es n, bs.get? sysModules = some o ∧ o.data = .dict es n

/-- as FnOk, but asked only where no guard (a repr that runs) stands around -/
structure FnG (pr : Program) (wd : World) (K : PySem.W.Frag) (mg : Str → Option Value) (bs : Heap) (k : Nat) (f : Addr) (fd : FuncData) (ps : List Str) (sp : Sp) : Prop where
  ln : ∀ vs H Q E, sp vs H Q E → vs.length = ps.length
  go : ∀ (A : Around) (outer : List Env) (s : Shared) (H : Hp) (args : Args) (us : List Value) (vs : List V) (Q : VK) (E : XK), A.guards = some [] → Room k A →
    Env0 pr wd K mg bs A outer s H → BindsTo s fd args (ps.zip us) → Vals vs us → sp vs H Q E → codeAny (model pr wd) A (.call (.ref f) args) (CR CX0 outer pr wd H s Q E) s

section
variable {pr : Program} {wd : World} {K : PySem.W.Frag} {mg : Str → Option Value} {bs : Heap} {k j : Nat} {f : Addr} {fd : FuncData} {ps : List Str} {sp : Sp}
theorem FnG.up (F : FnG pr wd K mg bs j f fd ps sp) (h : j ≤ k) : FnG pr wd K mg bs k f fd ps sp :=
  ⟨F.ln, fun A outer s H args us vs Q E hg hr => F.go A outer s H args us vs Q E hg (hr.mono h)⟩

/-- the rule for a def whose body may call repr -/
theorem okG {x qual : Str} {st : Stmt} {N : List Str} (F : Fun K x qual st f fd) (S : FnScope N ps (defScope st)) (ln : ∀ vs H Q E, sp vs H Q E → vs.length = ps.length)
    (hb : ∀ (cdv : Value) (A : Around) (outer : List Env) (s : Shared) (H : Hp) (vs : List V) (Q : VK) (E : XK), A.guards = some [] → Room k (A.deeper (envOfC qual (defScope st) s.heap.objs.size f cdv)) → sp vs H Q E →
      ∃ t, PSs (cxOf CX0 pr wd K mg bs N qual (defScope st) f cdv A outer s H E).nox (defBody st) t ∧ t { nx := fun _ H' => Q .non H', rt := Q } (start N vs) H) : FnG pr wd K mg bs (k + 1) f fd ps sp := by
  obtain ⟨oc, od, kV, doc, pm, an, cdv, ct, osl, rfl, lk, hcd⟩ := F.ex
  refine ⟨ln, fun A outer s H args us vs Q E hg hr e0 hbd r hsp => ?_⟩
  have hlen := ln _ _ _ _ hsp
  have kin : K.In s.heap := e0.mod.kin.keeps fun b o z => (e0.bs b o z).1
  have nolim : s.heap.NoLimit := e0.mod.nolimit.keeps fun b o z => (e0.bs b o z).1
  have kinds : ∀ y ∈ ps.zip us, (defScope st).names.lookup y.1 = some .local ∨ ((defScope st).names.lookup y.1 = some .cell ∧ ((cellsFrom (s.heap.objs.size + 1) (defScope st).names []).lookup y.1).isSome = true) := by
    rintro ⟨n, v⟩ hy
    rcases S.par n (List.of_mem_zip hy).1 with q | q
    · exact Or.inl q
    · exact Or.inr ⟨q, PySem.W.cellsFrom_some _ _ _ (Or.inl q)⟩
  refine codeAny_call_function hr.depth (kin _ _ lk) rfl S.co S.gen rfl (PySem.W.codeRec_of kin hcd) (hbd _ _ _ _ ?_)
  refine wpAny_newFunctionEnv_cells S.kind kinds fun env he s1 xx => ?_
  subst he
  refine ⟨nolim.keeps xx.toInCall.keep, codeAny_func ?_⟩
  obtain ⟨t, ht, hq⟩ := hb cdv A outer s H vs Q E hg (hr.deeper _) hsp
  have I : Inv (cxOf CX0 pr wd K mg bs N qual (defScope st) f cdv A outer s H E) [] (start N vs) H s1 := inv_start S hr.hd e0 hlen r xx
  refine wpAny_mono (ht.nox.run [] s1 (start N vs) H _ I hq) (fun fl s' hs => ?_) fun e s' hs => hs
  cases fl with
  | ret u =>
    obtain ⟨v, σ', H', J, rv, q⟩ := hs
    exact ⟨v, H', J.os, J.bare, J.base, J.hok, rv, q⟩
  | next =>
    obtain ⟨σ', H', J, q⟩ := hs
    exact ⟨V.non, H', J.os, J.bare, J.base, J.hok, rfl, q⟩
  | brk =>
    obtain ⟨σ', H', J, q⟩ := hs
    exact q.elim
  | cont =>
    obtain ⟨σ', H', J, q⟩ := hs
    exact q.elim

variable {X : Cx} {dvs : List V} {ds : List Value} {E : XK} {x : Str} {p pos : Pos} {e : Expr} {es : List Expr} {t : TA}
/-- f(e, ..) -/
theorem callG (hg : X.A.guards = some []) (F : FnG X.prog X.w X.K X.mg X.base k f fd ps sp) (hr : Room k X.A) (gl : Gl X x) (hm : X.mg x = some (.ref f)) (hk : PySem.W.keepIn X.K (.ref f) = true) (hb : Binds X.K fd ps [])
    (ha : PA X (e :: es) t) (hdb : (x == ("__debug__" : Str)) = false := by decide) (he : starEach (e :: es) X.env = (false, eval e X.env) :: starEach es X.env := by rfl) (hpl : (backTo pos (starEach es X.env)).any (·.1) = false := by rfl) :
    PE X (.Call (.Name x p) (e :: es) [] pos) (tCall sp [] E0 t) := by
  constructor
  intro pins s σ H Q I h
  refine wpAny_Call_Name_kw (ld_glob I gl hm ?_ hdb)
  refine PySem.W.callWith_K (h₀ := X.base) I.ok.mod.kin hk (thn (ha.run pos pins s σ H _ I h) ?_) he hpl
  rintro us s1 ⟨vs, H1, I1, r, q⟩
  refine ⟨I1.kIn, ?_⟩
  have q' : sp vs H1 Q E0 := by simpa using q
  have hl : us.length = ps.length := by rw [← r.length]; exact F.ln _ _ _ _ q'
  have hbd : BindsTo s1 fd ⟨us, []⟩ (ps.zip us) := by
    have z := hb s1 us I1.kIn (by rw [List.append_nil]; exact hl)
    rwa [List.append_nil] at z
  refine wpAny_call (codeAny_mono (F.go X.A X.stack s1 H1 ⟨us, []⟩ us vs Q E0 hg hr I1.env0 hbd r q') fun rr s' hq => ?_)
  cases rr with
  | error e => exact hq.elim
  | ok fl =>
    cases fl with
    | ret u => exact I1.after hq
    | next => exact hq.elim
    | brk => exact hq.elim
    | cont => exact hq.elim
end

section
variable {pr : Program} {wd : World} {K : PySem.W.Frag} {mg mb : Str → Option Value} {k : Nat} {fa a : Addr} {fd : FuncData} {x : Str} {sp : Sp} {s₁ : Shared} {vs : List Value} {ns : List Int}
theorem headG (kx : K.In s₁.heap) (nsg : s₁.heap.Ns mainGlobals mg) (nsb : s₁.heap.Ns builtinsNs mb) (hbb : ∀ x : Str, x ≠ "__name__" → mb x = bootBuiltins x) (nolim : s₁.heap.NoLimit) (nogen : s₁.gens = #[])
    (ha : s₁.heap.get? a = some { cls := .type "list", data := .seq vs.toArray }) (hi : IntsAre vs ns) (hl : ns.length ≤ sizeLine) (hr : Room k callerA)
    (sm : SM s₁.heap) (F : ∀ bs : Heap, SM bs → K.In bs → bs.Ns mainGlobals mg → FnG pr wd K mg bs k fa fd [x] sp) (hbind : ∀ (s : Shared) (u : Value), BindsTo s fd ⟨[u], []⟩ [(x, u)])
    (hsp : ∀ H : Hp, Only H → SqL K H a (ns.map V.int) → sp [.ref a] H (fun v _ => v = .bl true) E0) :
    codeAny (model pr wd) callerA (.call (.ref fa) ⟨[.ref a], []⟩) (fun r s' => r = .ok (.ret (.bool true)) ∧ OldK s₁.heap s'.heap ∧ s'.os = s₁.os ∧ AllBare s'.gens) s₁ := by
  have rv := vals_ints hi
  have key : ∀ H : Hp, Only H → SqL K H a (ns.map V.int) → HOk pr wd H s₁.heap → (∀ b, H b ≠ none → b = a) → (H a ≠ none → K.lookup a = none) →
      codeAny (model pr wd) callerA (.call (.ref fa) ⟨[.ref a], []⟩) (fun r s' => r = .ok (.ret (.bool true)) ∧ OldK s₁.heap s'.heap ∧ s'.os = s₁.os ∧ AllBare s'.gens) s₁ := by
    intro H hO hS hok only hK
    have dictFree : ∀ {b : Addr} {o : Obj} {es : Array DictEntry} {ep : Nat}, s₁.heap.get? b = some o → o.data = .dict es ep → H b = none := by
      intro b o es ep e d
      cases q : H b with
      | none => rfl
      | some u =>
        obtain rfl : b = a := only b (by rw [q]; simp)
        rw [ha] at e
        cases e
        have d' : Data.seq vs.toArray _ = Data.dict es ep := d
        cases d'
    have nsT : ∀ {b : Addr} {m : Str → Option Value}, s₁.heap.Ns b m → (hidT s₁.heap H).Ns b m := by
      rintro b m ⟨o, es, ep, e, d, r⟩
      exact ⟨o, es, ep, hidT_get e (dictFree e d), d, r⟩
    have kT : K.In (hidT s₁.heap H) := by
      intro b o e
      refine hidT_get (kx b o e) ?_
      cases q : H b with
      | none => rfl
      | some u =>
        obtain rfl : b = a := only b (by rw [q]; simp)
        rw [hK (by rw [q]; simp)] at e
        cases e
    have md : Mod K mg (hidT s₁.heap H) := ⟨kT, nsT nsg, ⟨mb, nsT nsb, hbb⟩, nolim.elim fun mc h => ⟨mc, nsT h.1, h.2⟩⟩
    have e0 : Env0 pr wd K mg (hidT s₁.heap H) callerA [] s₁ H :=
      ⟨rfl, md, fun b o e => of_hidT e, Nat.le_of_eq (hidT_size _ _), trivial, fun b hb => (List.not_mem_nil (show b ∈ ([] : List Addr) from hb)).elim, hok, .of_eq nogen⟩
    have smT : SM (hidT s₁.heap H) := by
      obtain ⟨o, es, n, e, d⟩ := sm
      exact ⟨o, es, n, hidT_get e (dictFree e d), d⟩
    have run := (F _ smT kT (nsT nsg)).go callerA [] s₁ H ⟨[.ref a], []⟩ [.ref a] [.ref a] _ _ rfl hr e0 (hbind s₁ (.ref a)) (.cons rfl .nil) (hsp H hO hS)
    refine codeAny_mono run fun r s' h => ?_
    cases r with
    | error e => exact (show False from h).elim
    | ok fl =>
      cases fl with
      | next => exact (show False from h).elim
      | brk => exact (show False from h).elim
      | cont => exact (show False from h).elim
      | ret u =>
        obtain ⟨v, H', os, bare, un, hok', r', q⟩ := h
        obtain rfl : v = .bl true := q
        obtain rfl : u = Value.bool true := r'
        refine ⟨rfl, OldK.of_keep fun b o e => ?_, os, bare⟩
        cases q : H b with
        | none => exact un.keep b o e q (fun z => List.not_mem_nil (show b ∈ ([] : List Addr) from z)) (by simp)
        | some u =>
          rcases hO b with z | ⟨ob, xs, z⟩
          · rw [q] at z
            cases z
          · obtain ⟨e1, _⟩ := hok b _ z
            obtain ⟨e2, _⟩ := hok' b _ (un.frzs b ob _ z)
            rw [e] at e1
            cases e1
            exact e2
  cases hk : K.lookup a with
  | some o =>
    have e := kx a o hk
    rw [ha] at e
    cases e
    refine key (fun _ => none) (fun _ => .inl rfl) (.inr ⟨_, vs.toArray, _, hk, rfl, rfl, rfl, by rw [List.size_toArray, hi.length]; exact hl, by simpa using rv⟩) ?_ (fun b z => absurd rfl z) fun z => absurd rfl z
    intro b u z
    exact absurd (show (none : Option HO) = some u from z) (by simp)
  | none =>
    refine key (fun b => if b = a then some (.frz { cls := .type "list", data := .seq vs.toArray } (.lst (ns.map V.int))) else none) ?_ (.inl (.inr ⟨_, if_pos rfl⟩)) ?_ ?_ fun _ => hk
    · intro b
      by_cases hb : b = a
      · exact .inr ⟨_, _, if_pos hb⟩
      · exact .inl (if_neg hb)
    · intro b u z
      by_cases hb : b = a
      · have z' := (if_pos hb).symm.trans z
        cases z'
        subst hb
        exact ⟨ha, by rw [List.length_map]; exact hl, vs, _, rv, ha⟩
      · exact absurd ((if_neg hb).symm.trans z) (by simp)
    · intro b z
      by_cases hb : b = a
      · exact hb
      · exact absurd (if_neg hb) z
end

/-- the goal behind k_head, from the law's promise -/
theorem walkG {l : PySem.W.OpenLaw} {n k : Nat} {q : Program} {loose : List Str} {XP : (Str → Option Value) → Heap → Prop} {YP : World → Heap → Prop} {d : DefRec} {K : Params → PySem.W.Frag} {sp : PySem.W.Frag → Sp} {x : Str}
    (hi : importsNone q = true) (hn : l.most = some n) (hn2 : n ≤ sizeLine) (nodef : d.params.defaults = []) (hr : Room k callerA) (hY : ∀ (w : World) (h : Heap), YP w h → (K w.params).In h)
    (F : ∀ (w : World) (mg : Str → Option Value) (fa : Addr) (h : Heap), (K w.params).In h → h.Ns mainGlobals mg → mg d.name = some (.ref fa) → ∃ fd : FuncData, (∀ (s : Shared) (u : Value), BindsTo s fd ⟨[u], []⟩ [(x, u)]) ∧
      ∀ bs : Heap, SM bs → (K w.params).In bs → bs.Ns mainGlobals mg → FnG l.prog w (K w.params) mg bs k fa fd [x] (sp (K w.params)))
    (hsp : ∀ (K : PySem.W.Frag) (H : Hp) (a : Addr) (ns : List Int), ns.length ≤ n → Only H → SqL K H a (ns.map V.int) → sp K [.ref a] H (fun v _ => v = .bl true) E0) :
    PySem.W.WalkO q loose XP YP l.row.toRowW d [] (fun f vs => PySem.call f vs) := by
  refine Att.attach_call hn nodef ?_
  intro w s₀ s₁ mg mb fa o pm cd doc a vs ns G Y ho hd hcd hmg hobj hints hlen hg
  have kx := hY w _ Y
  obtain ⟨fd, hb, hF⟩ := F w mg fa _ kx G.T.g hmg
  have sm : SM s₁.heap := by
    obtain ⟨mm, ⟨o, es, ep, e, d, _⟩, _⟩ := (G.T.seer hi).mods
    exact ⟨o, es, ep, e, d⟩
  exact headG kx G.T.g G.T.b G.T.builtins G.T.nolimit hg hobj hints (Nat.le_trans hlen hn2) hr sm hF hb fun H hO hS => hsp _ H a ns hlen hO hS
end AL
/-! AL2: data with dicts (Dd), repr of it, == of two lists, dicts or data that are equal. -/
namespace AL
open PySem PySem.Spec PyProof.Rows L2

def kD : Key → PyData
  | .inl i => .int i
  | .inr x => .str x
mutual
/-- the value is this data: as Dp, and dicts by their keys in order -/
inductive Dd (K : PySem.W.Frag) (H : Hp) : V → PyData → Prop
  | non : Dd K H .non .none
  | bl (b : Bool) : Dd K H (.bl b) (.bool b)
  | int (i : Int) : Dd K H (.int i) (.int i)
  | str (x : Str) : Dd K H (.str x) (.str x)
  | lst {a : Addr} {xs : List V} {ds : List PyData} : SqL K H a xs → DdA K H xs ds → Dd K H (.ref a) (.list ds)
  | tup {a : Addr} {xs : List V} {ds : List PyData} : SqT K H a xs → DdA K H xs ds → Dd K H (.ref a) (.tuple ds)
  | dic {a : Addr} {kvs : List (Key × V)} {ds : List PyData} : H a = some (.dK kvs) → DdA K H (kvs.map (·.2)) ds → Dd K H (.ref a) (.dict ((kvs.map fun p => kD p.1).zip ds))
inductive DdA (K : PySem.W.Frag) (H : Hp) : List V → List PyData → Prop
  | nil : DdA K H [] []
  | cons {v : V} {vs : List V} {d : PyData} {ds : List PyData} : Dd K H v d → DdA K H vs ds → DdA K H (v :: vs) (d :: ds)
end
theorem DdA.length {K : PySem.W.Frag} {H : Hp} : ∀ {vs : List V} {ds : List PyData}, DdA K H vs ds → vs.length = ds.length
  | [], [], _ => rfl
  | _ :: _, _ :: _, .cons _ t => congrArg (· + 1) (DdA.length t)

section
variable {X : Cx} {pins : List (Addr × Obj)} {σ : L2.St} {H : Hp} {s : Shared}
theorem not_modules (I : Inv X pins σ H s) (sm : SM X.base) {a : Addr} {xs : List V} (h : SqL X.K H a xs) : a ≠ sysModules := by
  rintro rfl
  obtain ⟨o, es, n, e, d⟩ := sm
  obtain ⟨e1, e2⟩ := I.bs _ _ e
  obtain ⟨its, rv, ⟨o', n', ho, hc, _, hd⟩, _⟩ := I.list h
  rw [e1] at ho
  cases ho
  rw [d] at hd
  cases hd
theorem key_read {h : Heap} {k : Key} {u : Value} (hk : keyIs k u = true) : Reads h u (kD k) [] := by
  rcases keyIs_shape hk with ⟨i, t, rfl, rfl⟩ | ⟨x, t, rfl, rfl⟩
  · exact .int i t
  · exact .str x t
theorem keys_read {h : Heap} {P : Program} {w : World} {es : List DictEntry} {vs : List (Key × Value)} (hp : Pairs (mixKind P w) es vs) : ∀ {kvs : List (Key × V)}, KV kvs vs → ReadsAll h (es.map (·.key)) (kvs.map fun p => kD p.1) [] := by
  induction hp with
  | nil =>
    intro kvs r
    cases r
    exact .nil
  | cons h1 _ _ ih =>
    intro kvs r
    cases r with
    | cons r1 r2 =>
      refine .cons (as := []) (bs := []) ?_ (ih r2)
      show Reads h _ (kD _) []
      rw [r1.1]
      exact key_read h1
theorem pairs_vals {P : Program} {w : World} {es : List DictEntry} {vs : List (Key × Value)} (hp : Pairs (mixKind P w) es vs) : ∀ {kvs : List (Key × V)}, KV kvs vs → Vals (kvs.map (·.2)) (es.map (·.val)) := by
  induction hp with
  | nil =>
    intro kvs r
    cases r
    exact .nil
  | cons _ h1 _ ih =>
    intro kvs r
    cases r with
    | cons r1 r2 =>
      refine .cons ?_ (ih r2)
      show L2.RelV _ (DictEntry.val _)
      rw [h1]
      exact r1.2
mutual
theorem Dd.reads (I : Inv X pins σ H s) (sm : SM X.base) : ∀ {v : V} {d : PyData}, Dd X.K H v d → ∀ (u : Value), RelV v u → ∃ as, Reads s.heap u d as ∧ sysModules ∉ as
  | _, _, .non, u, r => by
    obtain rfl : u = .none := r
    exact ⟨_, .none, by simp⟩
  | _, _, .bl b, u, r => by
    obtain rfl : u = .bool b := r
    exact ⟨_, .bool b, by simp⟩
  | _, _, .int i, u, r => by
    obtain ⟨t, rfl⟩ := r
    exact ⟨_, .int i t, by simp⟩
  | _, _, .str x, u, r => by
    obtain ⟨t, rfl⟩ := r
    exact ⟨_, .str x t, by simp⟩
  | _, _, .lst hs ha, u, r => by
    cases r
    obtain ⟨its, rv, ⟨o, n, ho, hc, _, hd⟩, _⟩ := I.list hs
    obtain ⟨as, hr, hn⟩ := DdA.reads I sm ha its rv
    refine ⟨_, .list ho hc hd hr, fun z => ?_⟩
    rcases List.mem_cons.mp z with z | z
    · exact not_modules I sm hs z.symm
    · exact hn z
  | _, _, .tup hs ha, u, r => by
    cases r
    obtain ⟨its, rv, ⟨o, ho, hc, n, hd⟩, _⟩ := I.tuple hs
    obtain ⟨as, hr, hn⟩ := DdA.reads I sm ha its rv
    exact ⟨_, .tuple ho hc hd hr, hn⟩
  | _, _, .dic (kvs := kvs) (ds := ds) ha hd, u, r => by
    cases r
    obtain ⟨_, na, vs, kv, ob, es, ep, eo, ex, ed, _, hp, _⟩ := I.hok _ _ ha
    have q1 := keys_read (h := s.heap) hp kv
    have hl : (kvs.map fun p => kD p.1).length = ds.length := by rw [← hd.length]; simp
    obtain ⟨bs, q2, n2⟩ := DdA.reads I sm hd _ (pairs_vals hp kv)
    refine ⟨_, .dict (kvs := (kvs.map fun p => kD p.1).zip ds) eo ex.1 ed (as := []) (bs := bs) ?_ ?_, fun z => ?_⟩
    · rw [List.map_fst_zip (Nat.le_of_eq hl)]
      exact q1
    · rw [List.map_snd_zip (Nat.le_of_eq hl.symm)]
      exact q2
    · rcases List.mem_cons.mp z with z | z
      · rw [← z] at na
        simp at na
      · exact n2 (by simpa using z)
theorem DdA.reads (I : Inv X pins σ H s) (sm : SM X.base) : ∀ {vs : List V} {ds : List PyData}, DdA X.K H vs ds → ∀ (us : List Value), Vals vs us → ∃ as, ReadsAll s.heap us ds as ∧ sysModules ∉ as
  | _, _, .nil, us, r => by
    cases r
    exact ⟨_, .nil, by simp⟩
  | _, _, .cons h1 h2, us, r => by
    cases r with
    | cons r1 r2 =>
      obtain ⟨as, q1, n1⟩ := Dd.reads I sm h1 _ r1
      obtain ⟨bs, q2, n2⟩ := DdA.reads I sm h2 _ r2
      exact ⟨_, .cons q1 q2, fun z => (List.mem_append.mp z).elim n1 n2⟩
end
end

section
variable {X : Cx}
/-- repr of data -/
def rRep (K : PySem.W.Frag) : List V → Hp → VK → Prop := fun xs H Q => ∃ v d, xs = [v] ∧ Dd K H v d ∧ d.showable = true ∧ d.depth ≤ 60 ∧ d.shown.length ≤ sizeLine ∧ Q (.str d.shown) H
theorem call_rep (hg : X.A.guards = some []) (hu : X.A.units + 64 < cLine) (sm : SM X.base) : CallR X (.builtin "repr") (rRep X.K) := by
  intro pins s σ H xs us Q I r h
  obtain ⟨v, d, rfl, hd, hs, hdp, hz, q⟩ := h
  obtain ⟨u, rfl, rv⟩ := vals1 r
  obtain ⟨as, hr, hn⟩ := Dd.reads I sm hd u rv
  cases hd with
  | non =>
    obtain rfl : u = .none := rv
    exact PySem.P.repr_of_none ⟨.str _, H, I.tok _, ⟨_, rfl⟩, by simpa only [PyData.shown] using q⟩
  | bl b =>
    obtain rfl : u = .bool b := rv
    exact PySem.P.repr_of_bool ⟨.str _, H, I.tok _, ⟨_, rfl⟩, by simpa only [PyData.shown] using q⟩
  | int i =>
    obtain ⟨t, rfl⟩ := rv
    exact PySem.P.repr_of_int (by simpa [PyData.showable] using hs) ⟨.str _, H, I.tok _, ⟨_, rfl⟩, by simpa only [PyData.shown] using q⟩
  | str x =>
    obtain ⟨t, rfl⟩ := rv
    exact PySem.P.repr_of_str ⟨.str _, H, I.tok _, ⟨_, rfl⟩, by simpa only [PyData.shown] using q⟩ (by simpa only [PyData.shown] using hz)
  | lst _ _ =>
    cases rv
    exact repr_of_reads' hr hs (fun _ => hn) hg (by omega) (fun _ _ e => e) (fun h' u tk hk => ⟨.str _, H, I.kept hk, ⟨_, rfl⟩, q⟩) hz
  | tup _ _ =>
    cases rv
    exact repr_of_reads' hr hs (fun _ => hn) hg (by omega) (fun _ _ e => e) (fun h' u tk hk => ⟨.str _, H, I.kept hk, ⟨_, rfl⟩, q⟩) hz
  | dic _ _ =>
    cases rv
    exact repr_of_reads' hr hs (fun _ => hn) hg (by omega) (fun _ _ e => e) (fun h' u tk hk => ⟨.str _, H, I.kept hk, ⟨_, rfl⟩, q⟩) hz
end
end AL
/-! AL3: an item of a list, read for xs[i] += e; the bag of draws. -/
namespace AL
open PySem PySem.Spec PyProof.Rows L2

section
variable {X : Cx}
theorem get_list : PGet X (rIxL X.K) := by
  intro pins s σ H o i ov iv Q I ro ri h
  obtain ⟨p, xs, k, z, rfl, rfl, hq, he, q⟩ := h
  cases ro
  obtain ⟨t, rfl⟩ := ri
  obtain ⟨its, r, pl, hz⟩ := I.list hq
  obtain ⟨j, h1, h2, h3, h4, h5⟩ := atI_get he
  obtain ⟨w, ew, rw'⟩ := r.get h2
  have hl := r.length
  have hn := line63
  have fin : EP X pins σ Q w s := ⟨z, H, I, rw', q⟩
  by_cases h0 : 0 ≤ k
  · have hj : k.toNat = j := by
      rw [seqIndex_of h0 h5] at h1
      exact Option.some.inj h1
    exact wpAny_getItem_list pl.isList h0 (by omega) (by rw [hj]; simpa using ew) fin
  · have hj : (k + (its.toArray.size : Int)).toNat = j := by
      rw [seqIndex_neg (by omega) h4] at h1
      rw [List.size_toArray, ← hl]
      exact Option.some.inj h1
    exact wpAny_getItem_list_neg pl.isList (by omega) (by rw [List.size_toArray] <;> omega) (by omega) (by rw [hj]; simpa using ew) fin

/-- two rules for one operation -/
theorem OpR.or {f : Value → Value → Sem Value} {r r' : R2} (h : OpR X f r) (h' : OpR X f r') : OpR X f (fun x y H Q => r x y H Q ∨ r' x y H Q) := by
  intro pins s σ H x y v u Q I rx ry q
  rcases q with q | q
  · exact h pins s σ H x y v u Q I rx ry q
  · exact h' pins s σ H x y v u Q I rx ry q
end

/-- the bag at b: the rest of a great number, the seed, how many are taken, the numbers -/
structure Bag (H : Hp) (b l : Addr) (c sd : Int) (i : Nat) (ns : List Int) : Prop where
  hb : H b = some (.lst [.int c, .int sd, .int (i : Int), .ref l])
  hl : H l = some (.lst (ns.map V.int))
  nz : ∀ n ∈ ns, 0 ≤ n
  c0 : 0 ≤ c
  s0 : 0 ≤ sd
  s1 : sd < 2147483647
def BagS (H : Hp) (b l : Addr) : Prop := ∃ c sd i ns, Bag H b l c sd i ns
theorem Bag.ne {H : Hp} {b l : Addr} {c sd : Int} {i : Nat} {ns : List Int} (B : Bag H b l c sd i ns) : l ≠ b := by
  intro e
  have h1 := B.hl
  rw [e, B.hb] at h1
  injection h1 with h1
  injection h1 with h1
  cases ns with
  | nil => cases h1
  | cons a r =>
    cases r with
    | nil => cases h1
    | cons a r =>
      cases r with
      | nil => cases h1
      | cons a r =>
        cases r with
        | nil => cases h1
        | cons a r =>
          simp at h1
theorem Bag.put {H : Hp} {b l : Addr} {c sd c' sd' : Int} {i i' : Nat} {ns : List Int} (B : Bag H b l c sd i ns) (h1 : 0 ≤ c') (h2 : 0 ≤ sd') (h3 : sd' < 2147483647) :
    Bag (upd H b (.lst [.int c', .int sd', .int (i' : Int), .ref l])) b l c' sd' i' ns :=
  ⟨upd_same, by rw [upd_ne B.ne]; exact B.hl, B.nz, h1, h2, h3⟩
/-- what a draw promises: a number below m; nothing but the bag has changed -/
def spTake : Sp := fun vs H Q _ => ∃ (b l : Addr) (m : Int), vs = [.ref b, .int m] ∧ BagS H b l ∧ 0 < m ∧ m < 1073741824 ∧
  ∀ (r : Int) (H' : Hp), 0 ≤ r → r < m → BagS H' b l → (∀ a, a ≠ b → H' a = H a) → Q (.int r) H'
/-- == of these two is True -/
def EqOk (K : PySem.W.Frag) (H : Hp) (x y : V) : Prop := (∃ d, Dp K H x d ∧ Dp K H y d ∧ SeqAt.shaped d = true) ∨ ∃ n, n ≤ 60 ∧ EqR K H (EqV K H n) x y
/-- repr of this data is asked of a size that the machine serves -/
def RepOk (d : PyData) : Prop := d.showable = true ∧ d.depth ≤ 60 ∧ d.shown.length ≤ sizeLine
def rEqOk (K : PySem.W.Frag) : R2 := fun x y H Q => EqOk K H x y ∧ Q (.bl true) H
theorem op_eqOk {X : Cx} (hu : X.A.units + 64 < cLine) : OpR X (compareOp .Eq) (rEqOk X.K) := by
  intro pins s σ H x y v u Q I rx ry h
  obtain ⟨h | ⟨n, hn, h⟩, q⟩ := h
  · obtain ⟨d, h1, h2, hs⟩ := h
    exact op_eqD hu pins s σ H x y v u Q I rx ry ⟨d, d, h1, h2, hs, hs, by rw [SeqAt.eqv_refl d (SeqAt.canLay_of_shaped hs)]; exact q⟩
  · exact op_eqV hu pins s σ H x y v u Q I rx ry ⟨n, hn, h, q⟩
/-- what the comparison of two values that are the same data promises -/
def spAlike (K : PySem.W.Frag) : Sp := fun vs H Q _ => ∃ (x y : V) (d : PyData), vs = [x, y] ∧ Dd K H x d ∧ Dd K H y d ∧ EqOk K H x y ∧ RepOk d ∧ Q (.bl true) H
/-- a new bag -/
def spBag (K : PySem.W.Frag) : Sp := fun vs H Q _ => ∃ (a : Addr) (ns : List Int), vs = [.ref a] ∧ SqL K H a (ns.map V.int) ∧ ns.length ≤ 63 ∧
  ∀ (b l : Addr) (H' : Hp), H b = none → H l = none → BagS H' b l → (∀ a o, H a = some o → H' a = some o) → Q (.ref b) H'
end AL
/-! AL4: things of k11: names, kinds, near ones, integers, truths, None, lists, tuples, dicts of a text. -/
namespace AL
open PySem PySem.Spec PyProof.Rows L2

theorem repOk_of {d : PyData} (h1 : d.showable = true) (h2 : d.depth ≤ 60) (h3 : d.leavesShort 1950 = true) (h4 : d.weight ≤ 8000) : RepOk d := by
  refine ⟨h1, h2, ?_⟩
  have h := PyData.shown_le 1950 (by decide) d h3
  have e : sizeLine = 16777216 := rfl
  have e2 : (1950 + 2) * d.weight ≤ 1952 * 8000 := Nat.mul_le_mul_left _ h4
  omega

/-- all that was tracked stays -/
def Ext (H H' : Hp) : Prop := ∀ a o, H a = some o → H' a = some o
theorem Ext.refl (H : Hp) : Ext H H := fun _ _ h => h
theorem Ext.trans {H H1 H2 : Hp} (a : Ext H H1) (b : Ext H1 H2) : Ext H H2 := fun c o h => b c o (a c o h)
theorem Ext.new {H H' : Hp} {p : Addr} {o : HO} (e : Ext H H') (h : H' p = none) : Ext H (upd H' p o) := fun a u q => by
  rw [upd_ne (ne_of_none (e a u q) h)]
  exact e a u q
/-- an object that H does not know may change -/
theorem Ext.put {H H' : Hp} {p : Addr} {o : HO} (e : Ext H H') (h : H p = none) : Ext H (upd H' p o) := fun a u q => by
  rw [upd_ne (ne_of_none q h)]
  exact e a u q
theorem Ext.back {H H' : Hp} {p : Addr} (e : Ext H H') (h : H' p = none) : H p = none := by
  cases q : H p with
  | none => rfl
  | some o =>
    rw [e p o q] at h
    cases h
theorem Ext.l {K : PySem.W.Frag} {H H' : Hp} {a : Addr} {xs : List V} (e : Ext H H') (h : SqL K H a xs) : SqL K H' a xs := by
  rcases h with (h | ⟨o, h⟩) | h
  · exact .inl (.inl (e _ _ h))
  · exact .inl (.inr ⟨o, e _ _ h⟩)
  · exact .inr h
theorem Ext.t {K : PySem.W.Frag} {H H' : Hp} {a : Addr} {xs : List V} (e : Ext H H') (h : SqT K H a xs) : SqT K H' a xs := by
  rcases h with (h | ⟨o, h⟩) | h
  · exact .inl (.inl (e _ _ h))
  · exact .inl (.inr ⟨o, e _ _ h⟩)
  · exact .inr h
mutual
theorem Dd.ext {K : PySem.W.Frag} {H H' : Hp} (e : Ext H H') : ∀ {v : V} {d : PyData}, Dd K H v d → Dd K H' v d
  | _, _, .non => .non
  | _, _, .bl b => .bl b
  | _, _, .int i => .int i
  | _, _, .str x => .str x
  | _, _, .lst h r => .lst (e.l h) (DdA.ext e r)
  | _, _, .tup h r => .tup (e.t h) (DdA.ext e r)
  | _, _, .dic h r => .dic (e _ _ h) (DdA.ext e r)
theorem DdA.ext {K : PySem.W.Frag} {H H' : Hp} (e : Ext H H') : ∀ {vs : List V} {ds : List PyData}, DdA K H vs ds → DdA K H' vs ds
  | _, _, .nil => .nil
  | _, _, .cons h r => .cons (Dd.ext e h) (DdA.ext e r)
end
/-- behind a draw: all but the bag's own list -/
def ExtB (b : Addr) (H H' : Hp) : Prop := ∀ a o, a ≠ b → H a = some o → H' a = some o

/-- a text of at most n signs, all of them ASCII -/
structure Tx (n : Nat) (x : Str) : Prop where
  ln : x.length ≤ n
  as : ∀ c ∈ x.cps.toList, c < 128
theorem Tx.up {n m : Nat} {x : Str} (t : Tx n x) (h : n ≤ m) : Tx m x := ⟨Nat.le_trans t.ln h, t.as⟩
theorem Tx.app {n m : Nat} {x y : Str} (t : Tx n x) (u : Tx m y) : Tx (n + m) (x ++ y) := by
  refine ⟨?_, fun c hc => ?_⟩
  · rw [strLen_append]
    exact Nat.add_le_add t.ln u.ln
  · rw [show (x ++ y).cps = x.cps ++ y.cps from rfl, Array.toList_append] at hc
    exact (List.mem_append.mp hc).elim (t.as c) (u.as c)
theorem Tx.line {n : Nat} {x : Str} (t : Tx n x) (h : n ≤ 5000000) : x.length ≤ sizeLine := Nat.le_trans t.ln (Nat.le_trans h (by decide))

inductive ThingV (H : Hp) : V → Prop
  | non : ThingV H .non
  | bl (b : Bool) : ThingV H (.bl b)
  | int (i : Int) (h : i.natAbs.log2 < 300) : ThingV H (.int i)
  | str (x : Str) (h : Tx 60 x) : ThingV H (.str x)
  | lst0 (a : Addr) (h : H a = some (.lst [])) : ThingV H (.ref a)
  | lst1 (a : Addr) (x : Str) (h : H a = some (.lst [.str x])) (t : Tx 60 x) : ThingV H (.ref a)
  | tup1 (a : Addr) (x : Str) (h : H a = some (.tup [.str x])) (t : Tx 60 x) : ThingV H (.ref a)
  | dct1 (a : Addr) (x : Str) (h : H a = some (.dK [(.inr x, .int 1)])) (t : Tx 60 x) : ThingV H (.ref a)
theorem ThingV.ext {H H' : Hp} {v : V} (e : Ext H H') : ThingV H v → ThingV H' v
  | .non => .non
  | .bl b => .bl b
  | .int i h => .int i h
  | .str x h => .str x h
  | .lst0 a h => .lst0 a (e _ _ h)
  | .lst1 a x h t => .lst1 a x (e _ _ h) t
  | .tup1 a x h t => .tup1 a x (e _ _ h) t
  | .dct1 a x h t => .dct1 a x (e _ _ h) t
theorem ThingV.extB {H H' : Hp} {b l : Addr} {c sd : Int} {i : Nat} {ns : List Int} {v : V} (B : Bag H b l c sd i ns) (e : ExtB b H H') : ThingV H v → ThingV H' v
  | .non => .non
  | .bl b => .bl b
  | .int i h => .int i h
  | .str x h => .str x h
  | .lst0 a h => .lst0 a (e _ _ (ne_of h B.hb (by intro z; cases z)) h)
  | .lst1 a x h t => .lst1 a x (e _ _ (ne_of h B.hb (by intro z; cases z)) h) t
  | .tup1 a x h t => .tup1 a x (e _ _ (ne_of h B.hb (by intro z; cases z)) h) t
  | .dct1 a x h t => .dct1 a x (e _ _ (ne_of h B.hb (by intro z; cases z)) h) t
/-- the data that a thing is -/
theorem tx_short {n : Nat} {x : Str} (t : Tx n x) : (PyData.str x).leavesShort 1950 = true := by
  simp only [PyData.leavesShort, List.all_eq_true, decide_eq_true_eq]
  intro c hc
  exact Nat.lt_trans (t.as c hc) (by decide)
theorem tx_weight {n : Nat} {x : Str} (t : Tx n x) : (PyData.str x).weight ≤ n := t.ln
theorem ThingV.data {K : PySem.W.Frag} {H : Hp} {v : V} : ThingV H v → ∃ d, Dd K H v d ∧ RepOk d
  | .non => ⟨_, .non, repOk_of rfl (by decide) rfl (by decide)⟩
  | .bl b => ⟨_, .bl b, repOk_of rfl (by simp [PyData.depth]) rfl (by simp [PyData.weight])⟩
  | .int i h => by
    refine ⟨_, .int i, repOk_of (by simp only [PyData.showable, decide_eq_true_eq]; omega) (by simp [PyData.depth]) ?_ ?_⟩
    · simp only [PyData.leavesShort, decide_eq_true_eq]
      exact Nat.le_trans (int_text_len_1921 (Nat.lt_trans h (by decide))) (by decide)
    · simp only [PyData.weight]
      split <;> omega
  | .str x t => ⟨_, .str x, repOk_of rfl (by simp [PyData.depth]) (tx_short t) (Nat.le_trans (tx_weight t) (by decide))⟩
  | .lst0 a h => ⟨_, .lst (.inl (.inl h)) .nil, repOk_of rfl (by decide) rfl (by decide)⟩
  | .lst1 a x h t => by
    have s := tx_short t
    have z := tx_weight t
    refine ⟨_, .lst (.inl (.inl h)) (.cons (.str x) .nil), repOk_of rfl (by simp [PyData.depth, PyData.depthAll]) ?_ ?_⟩
    · simp only [PyData.leavesShort, PyData.leavesShortAll, Bool.and_true] at s ⊢
      exact s
    · simp only [PyData.weight, PyData.weightAll] at z ⊢
      omega
  | .tup1 a x h t => by
    have s := tx_short t
    have z := tx_weight t
    refine ⟨_, .tup (.inl (.inl h)) (.cons (.str x) .nil), repOk_of rfl (by simp [PyData.depth, PyData.depthAll]) ?_ ?_⟩
    · simp only [PyData.leavesShort, PyData.leavesShortAll, Bool.and_true] at s ⊢
      exact s
    · simp only [PyData.weight, PyData.weightAll] at z ⊢
      omega
  | .dct1 a x h t => by
    have s := tx_short t
    have z := tx_weight t
    refine ⟨_, .dic h (.cons (.int 1) .nil), repOk_of rfl (by simp [kD, PyData.depth, PyData.depthKv]) ?_ ?_⟩
    · show ((PyData.str x).leavesShort 1950 && (PyData.int 1).leavesShort 1950 && true) = true
      rw [s]
      rfl
    · show (PyData.dict [(.str x, .int 1)]).weight ≤ 8000
      simp only [PyData.weight, PyData.weightKv] at z ⊢
      have : (1 : Int).natAbs.log2 = 0 := by decide
      rw [this]
      simp
      omega
theorem kb_NoneType_int : kitB "NoneType" "int" = some false := by decide +kernel
theorem kb_NoneType_bool : kitB "NoneType" "bool" = some false := by decide +kernel
theorem kb_NoneType_str : kitB "NoneType" "str" = some false := by decide +kernel
theorem kb_bool_int : kitB "bool" "int" = some true := by decide +kernel
theorem kb_bool_bool : kitB "bool" "bool" = some true := by decide +kernel
theorem kb_bool_str : kitB "bool" "str" = some false := by decide +kernel
theorem kb_int_int : kitB "int" "int" = some true := by decide +kernel
theorem kb_int_bool : kitB "int" "bool" = some false := by decide +kernel
theorem kb_int_str : kitB "int" "str" = some false := by decide +kernel
theorem kb_str_int : kitB "str" "int" = some false := by decide +kernel
theorem kb_str_bool : kitB "str" "bool" = some false := by decide +kernel
theorem kb_str_str : kitB "str" "str" = some true := by decide +kernel
theorem kb_list_int : kitB "list" "int" = some false := by decide +kernel
theorem kb_list_bool : kitB "list" "bool" = some false := by decide +kernel
theorem kb_list_str : kitB "list" "str" = some false := by decide +kernel
theorem kb_tuple_int : kitB "tuple" "int" = some false := by decide +kernel
theorem kb_tuple_bool : kitB "tuple" "bool" = some false := by decide +kernel
theorem kb_tuple_str : kitB "tuple" "str" = some false := by decide +kernel
theorem kb_dict_int : kitB "dict" "int" = some false := by decide +kernel
theorem kb_dict_bool : kitB "dict" "bool" = some false := by decide +kernel
theorem kb_dict_str : kitB "dict" "str" = some false := by decide +kernel
inductive Ty3 where | I | B | S
def Ty3.nm : Ty3 → String
  | .I => "int"
  | .B => "bool"
  | .S => "str"
def tyB : V → Ty3 → Bool
  | .int _, .I => true
  | .bl _, .I => true
  | .bl _, .B => true
  | .str _, .S => true
  | _, _ => false
/-- isinstance(thing, int | bool | str) -/
theorem ThingV.isi {K : PySem.W.Frag} {H : Hp} {v : V} (h : ThingV H v) (m : Ty3) : ∃ t, TyX K H v t ∧ PySem.W.kitOne K t (.type m.nm) = some (tyB v m) := by
  cases h with
  | non => exact ⟨_, .base .non, by cases m <;> first | exact kit_ty kb_NoneType_int | exact kit_ty kb_NoneType_bool | exact kit_ty kb_NoneType_str⟩
  | bl b => exact ⟨_, .base (.bl b), by cases m <;> first | exact kit_ty kb_bool_int | exact kit_ty kb_bool_bool | exact kit_ty kb_bool_str⟩
  | int i _ => exact ⟨_, .base (.int i), by cases m <;> first | exact kit_ty kb_int_int | exact kit_ty kb_int_bool | exact kit_ty kb_int_str⟩
  | str x _ => exact ⟨_, .base (.str x), by cases m <;> first | exact kit_ty kb_str_int | exact kit_ty kb_str_bool | exact kit_ty kb_str_str⟩
  | lst0 a h => exact ⟨_, .base (.lst h), by cases m <;> first | exact kit_ty kb_list_int | exact kit_ty kb_list_bool | exact kit_ty kb_list_str⟩
  | lst1 a x h _ => exact ⟨_, .base (.lst h), by cases m <;> first | exact kit_ty kb_list_int | exact kit_ty kb_list_bool | exact kit_ty kb_list_str⟩
  | tup1 a x h _ => exact ⟨_, .base (.tup h), by cases m <;> first | exact kit_ty kb_tuple_int | exact kit_ty kb_tuple_bool | exact kit_ty kb_tuple_str⟩
  | dct1 a x h _ => exact ⟨_, .base (.dK h), by cases m <;> first | exact kit_ty kb_dict_int | exact kit_ty kb_dict_bool | exact kit_ty kb_dict_str⟩

/-! the three readings -/
def kindsV : List V := [.str "fixed", .str "stable", .str "changing", .str "effect"]
def isI : V → Bool := fun v => tyB v .I && !tyB v .B
def low (c : Nat) : Bool := decide (97 ≤ c) && decide (c ≤ 122)
def isN : V → Bool
  | .str x => decide (1 ≤ x.length) && decide (x.length ≤ 8) && x.cps.toList.all low
  | _ => false
def isK (v : V) : Bool := tyB v .S && inV v kindsV
end AL
/-! AL5: texts: s * n, their signs, cuts, upper. -/
namespace AL
open PySem PySem.Spec PyProof.Rows L2
theorem op_mulS {X : Cx} : OpR X (binaryOp .Mult) (fun x y H Q => ∃ z n, x = .str z ∧ y = .int n ∧ z.length ≤ 1000 ∧ 0 ≤ n ∧ n ≤ 1000 ∧ Q (.str (Txt.mul z n)) H) := by
  intro pins s σ H x y v u Q I rx ry h
  obtain ⟨z, n, rfl, rfl, h1, h2, h3, q⟩ := h
  obtain ⟨t, rfl⟩ := rx
  obtain ⟨t', rfl⟩ := ry
  exact SB.mul (PyProof.Rows.mulOk_of 1000 1000 h1 (by omega) (by omega) (by decide) (by decide)) fun t2 k => ⟨.str _, H, I.tok k, ⟨_, rfl⟩, q⟩
theorem mem_rep {c : Nat} {a : Array Nat} : ∀ (n : Nat) (acc : Array Nat), c ∈ ((List.replicate n a).foldl (· ++ ·) acc).toList → c ∈ acc.toList ∨ c ∈ a.toList
  | 0, acc, h => .inl h
  | n + 1, acc, h => by
    rw [List.replicate_succ, List.foldl_cons] at h
    rcases mem_rep n (acc ++ a) h with q | q
    · rw [Array.toList_append, List.mem_append] at q
      exact q
    · exact .inr q
theorem mem_mul {c : Nat} {x : Str} {n : Int} (h : c ∈ (Txt.mul x n).cps.toList) : c ∈ x.cps.toList := by
  unfold Txt.mul at h
  split at h
  · simp [Str.empty] at h
  · split at h
    · exact h
    · rcases mem_rep _ _ h with q | q
      · simp at q
      · exact q
theorem Tx.mul {m k : Nat} {x : Str} {n : Int} (t : Tx m x) (h0 : 0 ≤ n) (hn : n ≤ (k : Int)) : Tx (m * k) (Txt.mul x n) := by
  refine ⟨?_, fun c hc => t.as c (mem_mul hc)⟩
  have e := PyProof.Rows.len_mul x n
  rw [if_neg (by simpa using h0)] at e
  have h1 : ((x.length : Int)) * n ≤ (m : Int) * (k : Int) := Int.mul_le_mul (by have := t.ln; omega) hn h0 (by omega)
  have h2 : ((m * k : Nat) : Int) = (m : Int) * (k : Int) := by simp
  omega
theorem Tx.cut {n : Nat} {x : Str} (t : Tx n x) (lo hi : Option Int) : Tx n (cutS x lo hi) := by
  refine ⟨Nat.le_trans (cutS_length x lo hi) t.ln, fun c hc => ?_⟩
  unfold cutS at hc
  exact t.as c (List.mem_of_mem_drop (List.mem_of_mem_take (by simpa using hc)))
theorem Tx.upper {n : Nat} {x : Str} (t : Tx n x) : Tx n (Txt.upper x) := by
  rw [upper_ascii t.as]
  refine ⟨?_, fun c hc => ?_⟩
  · have : (⟨x.cps.map up1⟩ : Str).length = x.length := by simp [Str.length]
    rw [this]
    exact t.ln
  · simp only [Array.toList_map, List.mem_map] at hc
    obtain ⟨d, hd, rfl⟩ := hc
    have := t.as d hd
    unfold up1
    split <;> omega
/-- a boolean look at written texts -/
def txB (n : Nat) (x : Str) : Bool := decide (x.length ≤ n) && x.cps.toList.all fun c => decide (c < 128)
theorem Tx.of {n : Nat} {x : Str} (h : txB n x = true) : Tx n x := by
  unfold txB at h
  rw [Bool.and_eq_true, decide_eq_true_eq, List.all_eq_true] at h
  exact ⟨h.1, fun c hc => by simpa using h.2 c hc⟩
theorem Tx.all {n : Nat} {xs : List Str} (h : xs.all (txB n) = true) : ∀ x ∈ xs, Tx n x := fun x hx => .of (List.all_eq_true.mp h x hx)
theorem tx_one {c : Nat} (h : c < 128) : Tx 1 ⟨#[c]⟩ := ⟨Nat.le_refl _, fun d hd => by simp at hd; omega⟩

theorem BagS.ext {H H' : Hp} {b l : Addr} (e : Ext H H') : BagS H b l → BagS H' b l
  | ⟨c, sd, i, ns, B⟩ => ⟨c, sd, i, ns, e _ _ B.hb, e _ _ B.hl, B.nz, B.c0, B.s0, B.s1⟩
theorem BagS.some {H : Hp} {b l : Addr} : BagS H b l → ∃ o, H b = some o
  | ⟨_, _, _, _, B⟩ => ⟨_, B.hb⟩
theorem BagS.upd {H : Hp} {b l p : Addr} {o : HO} (nb : p ≠ b) (nl : p ≠ l) : BagS H b l → BagS (L2.upd H p o) b l
  | ⟨c, sd, i, ns, B⟩ => ⟨c, sd, i, ns, by rw [upd_ne nb.symm]; exact B.hb, by rw [upd_ne nl.symm]; exact B.hl, B.nz, B.c0, B.s0, B.s1⟩
theorem ThingV.extS {H H' : Hp} {b l : Addr} {v : V} (e : ExtB b H H') (t : ThingV H v) : BagS H b l → ThingV H' v
  | ⟨_, _, _, _, B⟩ => t.extB B e
theorem ThingV.upd {H : Hp} {p : Addr} {o : HO} {v : V} (n : v ≠ .ref p) : ThingV H v → ThingV (L2.upd H p o) v
  | .non => .non
  | .bl b => .bl b
  | .int i h => .int i h
  | .str x h => .str x h
  | .lst0 a h => .lst0 a (by rw [upd_ne (fun e => n (by rw [e]))]; exact h)
  | .lst1 a x h t => .lst1 a x (by rw [upd_ne (fun e => n (by rw [e]))]; exact h) t
  | .tup1 a x h t => .tup1 a x (by rw [upd_ne (fun e => n (by rw [e]))]; exact h) t
  | .dct1 a x h t => .dct1 a x (by rw [upd_ne (fun e => n (by rw [e]))]; exact h) t
theorem Ext.b {H H' : Hp} {b : Addr} (e : Ext H H') : ExtB b H H' := fun a o _ h => e a o h
theorem ExtB.of {H H' : Hp} {b : Addr} (s : ∀ a, a ≠ b → H' a = H a) : ExtB b H H' := fun a o n h => by rw [s a n]; exact h
theorem ExtB.trans {H H1 H2 : Hp} {b : Addr} (x : ExtB b H H1) (y : ExtB b H1 H2) : ExtB b H H2 := fun a o n h => y a o n (x a o n h)
theorem ExtB.back {H H' : Hp} {b l p : Addr} (x : ExtB b H H') (B : BagS H' b l) (n : H' p = none) : H p = none := by
  by_cases hp : p = b
  · obtain ⟨o, h⟩ := B.some
    rw [hp, h] at n
    cases n
  · cases q : H p with
    | none => rfl
    | some o =>
      rw [x p o hp q] at n
      cases n
theorem ExtB.new {H H' : Hp} {b p : Addr} {o : HO} (x : ExtB b H H') (n : H' p = none) : ExtB b H (upd H' p o) := x.trans ((Ext.refl H').new n).b
theorem ne_bag {H : Hp} {b l p : Addr} (B : BagS H b l) (n : H p = none) : p ≠ b := by
  rintro rfl
  obtain ⟨o, h⟩ := B.some
  rw [h] at n
  cases n
theorem ne_bagl {H : Hp} {b l p : Addr} : BagS H b l → H p = none → p ≠ l
  | ⟨c, sd, i, ns, B⟩, n => by
    rintro rfl
    rw [B.hl] at n
    cases n

/-! cuts of lists -/
theorem cutV_map {α : Type} (f : α → V) (xs : List α) (lo hi : Option Int) : cutV (xs.map f) lo hi = ((xs.drop (HT.sIx xs.length 0 lo)).take (HT.sIx xs.length xs.length hi - HT.sIx xs.length 0 lo)).map f := by
  unfold cutV
  rw [List.map_take, List.map_drop, List.length_map]
end AL
namespace AL
open PySem L2
def top (i : Nat) : Stmt := PySem.Challenge.pw_plancalls_k11_kinds_known.main.body.getD i (.Pass ⟨0, 0, 0, 0⟩)
def ifBody : Stmt → List Stmt
  | .If _ b _ _ => b
  | _ => []
abbrev sBag : Stmt := top 8
abbrev sTake : Stmt := top 9
abbrev sAlike : Stmt := top 10
section
variable {P : Program} {w : World} {K : PySem.W.Frag} {mg : Str → Option Value} {base : Heap}
theorem scTake : FnScope ["_law_bag_here", "_law_most", "_law_cell", "_law_mixed", "_law_drawn", "_law_begin", "_law_second"] ["_law_bag_here", "_law_most"] (defScope sTake) :=
  ⟨rfl, rfl, rfl, by decide +kernel, rfl, by decide +kernel, by decide +kernel⟩
/-- the built-ins -/
structure Blt (mg : Str → Option Value) : Prop where
  len : mg "len" = none
  int : mg "int" = none
  abs : mg "abs" = none
  repr : mg "repr" = none
  isinstance : mg "isinstance" = none
  bool : mg "bool" = none
  str : mg "str" = none
  all : mg "all" = none
  range : mg "range" = none
  enumerate : mg "enumerate" = none
  tuple : mg "tuple" = none
theorem ok_take {f : Addr} {fd : FuncData} (F : Fun K "_law_take" "_law_take" sTake f fd) (T : Blt mg) : FnOk P w K mg base CX0 1 f fd ["_law_bag_here", "_law_most"] spTake := by
  refine F.ok scTake (fun vs H Q E h => ?_) (fun cdv A outer s H vs Q E hr h => ?_)
  · obtain ⟨b, l, m, rfl, _⟩ := h
    rfl
  · obtain ⟨b, l, m, rfl, ⟨c, sd, i, ns, B⟩, m0, m1, k⟩ := h
    have nd := scTake.nd
    obtain ⟨tR, hR, rd⟩ : ∃ tR, PSs (cxOf CX0 P w K mg base ["_law_bag_here", "_law_most", "_law_cell", "_law_mixed", "_law_drawn", "_law_begin", "_law_second"] "_law_take" (defScope sTake) f cdv A outer s H E).nox ((defBody sTake).drop 1) tR ∧
        ∀ (H1 : Hp) (x y : Option V) (c sd : Int) (i : Nat) (ns : List Int), Bag H1 b l c sd i ns → (∀ a, a ≠ b → H1 a = H a) → tR { nx := fun _ H' => Q .non H', rt := Q } [some (.ref b), some (.int m), x, y, none, none, none] H1 := by
      refine ⟨_, pss_cons (ps_if (pt_cmpR op_gt (pe_ix ix_list (pv 0) pe_int (fun _ _ => rfl)) pe_int (nomark _))
          (pss_cons (ps_set (i := 4) nd rfl (.inl rfl) (pe_op op_mod (pe_callTy call_int1 (by rfl) T.int (by decide +kernel) (pa_cons (pe_ix ix_list (pv 0) pe_int (fun _ _ => rfl)) pa_nil)) (pv 1)))
            (pss_cons (ps_asg (pe_op op_fdiv (pe_callTy call_int1 (by rfl) T.int (by decide +kernel) (pa_cons (pe_ix ix_list (pv 0) pe_int (fun _ _ => rfl)) pa_nil)) (pv 1)) (pg_sub (pv 0) pe_int set_list))
            (pss_one (ps_ret (pv 4))))) pss_nil)
        (pss_cons (ps_set (i := 5) nd rfl (.inl rfl) (pe_op op_mod (pe_callTy call_int1 (by rfl) T.int (by decide +kernel) (pa_cons (pe_op op_mul (pe_op op_add (pe_ix ix_list (pv 0) pe_int (fun _ _ => rfl)) pe_int) pe_int) pa_nil)) pe_int))
        (pss_cons (ps_set (i := 6) nd rfl (.inl rfl) (pe_op op_mod (pe_callTy call_int1 (by rfl) T.int (by decide +kernel) (pa_cons (pe_op op_mul (pv 5) (pv 5)) pa_nil)) pe_int))
        (pss_cons (ps_set (i := 6) nd rfl (.inl rfl) (pe_op op_mod (pe_callTy call_int1 (by rfl) T.int (by decide +kernel) (pa_cons (pe_op op_mul (pv 6) pe_int) pa_nil)) pe_int))
        (pss_cons (ps_if (pt_cmpR op_gt (pv 1) pe_int (nomark _))
          (pss_one (ps_ret (pe_op op_mod (pe_callTy call_int1 (by rfl) T.int (by decide +kernel) (pa_cons (pe_op op_add (pe_op op_mul (pv 6) pe_int) (pv 5)) pa_nil)) (pv 1)))) pss_nil)
        (pss_one (ps_ret (pe_op op_mod (pe_callTy call_int1 (by rfl) T.int (by decide +kernel) (pa_cons (pe_op op_fdiv (pv 6) pe_int) pa_nil)) (pv 1)))))))), ?_⟩
      intro H1 x y c sd i ns B1 same
      have hb := B1.hb
      have sb : SqL K H1 b [.int c, .int sd, .int (i : Int), .ref l] := .inl (.inl hb)
      refine ⟨_, rfl, b, _, 0, _, rfl, rfl, sb, rfl, _, _, rfl, rfl, _, rfl, ?_⟩
      refine ite2 (fun hc => ?_) (fun hc => ?_)
      · have c1 : 0 < c := by simpa using hc
        refine ⟨_, rfl, b, _, 0, _, rfl, rfl, sb, rfl, .inl ⟨_, rfl, _, rfl, _, _, rfl, rfl, m0, ?_⟩⟩
        refine ⟨_, rfl, b, _, 0, _, rfl, rfl, sb, rfl, .inl ⟨_, rfl, _, rfl, _, _, rfl, rfl, ⟨m0, m1⟩, ?_⟩⟩
        refine ⟨_, rfl, b, _, 0, 0, rfl, rfl, hb, rfl, _, rfl, ?_⟩
        exact k _ _ (Int.emod_nonneg c (by omega)) (Int.emod_lt_of_pos c m0) ⟨_, sd, i, ns, B1.put (Int.ediv_nonneg B1.c0 (by omega)) B1.s0 B1.s1⟩ fun a ha => by rw [upd_ne ha]; exact same a ha
      · refine ⟨_, rfl, b, _, 1, _, rfl, rfl, sb, rfl, _, _, rfl, rfl, _, _, rfl, rfl, .inr ⟨by decide, by decide⟩, .inl ⟨_, rfl, _, _, rfl, rfl, (by show (0 : Int) < 1000000007; decide), ?_⟩⟩
        have e1 := Int.emod_nonneg ((sd + 1) * 39373) (show (1000000007 : Int) ≠ 0 by decide)
        have e2 := Int.emod_lt_of_pos ((sd + 1) * 39373) (show (0 : Int) < 1000000007 by decide)
        refine ⟨_, rfl, _, rfl, _, _, rfl, rfl, .inl ⟨by omega, by omega⟩, .inl ⟨_, rfl, _, _, rfl, rfl, (by show (0 : Int) < 998244353; decide), ?_⟩⟩
        refine ⟨_, rfl, _, _, rfl, rfl, .inr ⟨by decide, by decide⟩, .inl ⟨_, rfl, _, _, rfl, rfl, (by show (0 : Int) < 998244353; decide), ?_⟩⟩
        refine ⟨_, rfl, _, _, rfl, rfl, _, rfl, ?_⟩
        have fin : ∀ z : Int, Q (.int (z % m)) H1 := fun z => k _ _ (Int.emod_nonneg z (by omega)) (Int.emod_lt_of_pos z m0) ⟨c, sd, i, ns, B1⟩ same
        refine ite2 (fun _ => ?_) (fun _ => ?_)
        · refine ⟨_, rfl, _, _, rfl, rfl, .inr ⟨by decide, by decide⟩, _, rfl, _, _, rfl, rfl, .inl ⟨_, rfl, _, rfl, _, _, rfl, rfl, m0, ?_⟩⟩
          exact fin _
        · refine ⟨_, rfl, _, _, rfl, rfl, ⟨by decide, by decide⟩, .inl ⟨_, rfl, _, rfl, _, _, rfl, rfl, m0, ?_⟩⟩
          exact fin _
    obtain ⟨tM, hM, rdM⟩ : ∃ tM, PSs (cxOf CX0 P w K mg base ["_law_bag_here", "_law_most", "_law_cell", "_law_mixed", "_law_drawn", "_law_begin", "_law_second"] "_law_take" (defScope sTake) f cdv A outer s H E).nox ((ifBody ((defBody sTake).getD 0 (.Pass ⟨0, 0, 0, 0⟩))).drop 2) tM ∧
        ∀ (D : Ends) (z : Int), 0 ≤ z → (∀ (H1 : Hp) (y : Option V) (c sd : Int) (i : Nat), Bag H1 b l c sd i ns → (∀ a, a ≠ b → H1 a = H a) → D.nx [some (.ref b), some (.int m), some (.int z), y, none, none, none] H1) →
          tM D [some (.ref b), some (.int m), some (.int z), none, none, none, none] H := by
      refine ⟨_, pss_cons (ps_augS (pv 0) pe_int get_list pe_int ip_add set_list)
        (pss_cons (ps_if (pt_cmpR op_ge (pv 2) (pe_op op_pow pe_int pe_int) (nomark _)) (pss_one (ps_asg (pv 2) (pg_sub (pv 0) pe_int set_list))) pss_nil)
        (pss_cons (ps_set (i := 3) nd rfl (.inl rfl) (pe_op op_add (pe_op op_add (pe_op op_mul (pe_ix ix_list (pv 0) pe_int (fun _ _ => rfl)) pe_int) (pe_op op_mod (pe_callTy call_int1 (by rfl) T.int (by decide +kernel) (pa_cons (pv 2) pa_nil)) pe_int))
            (pe_op op_mul pe_int (pe_ix ix_list (pv 0) pe_int (fun _ _ => rfl)))))
        (pss_one (ps_asg (pe_op op_mod (pe_callTy call_int1 (by rfl) T.int (by decide +kernel) (pa_cons (pv 3) pa_nil)) pe_int) (pg_sub (pv 0) pe_int set_list))))), ?_⟩
      intro D z z0 kk
      refine ⟨_, rfl, b, _, 2, _, rfl, rfl, .inl (.inl B.hb), rfl, _, _, rfl, rfl, b, _, 2, 2, rfl, rfl, B.hb, rfl, ?_⟩
      have B1 : Bag (upd H b (.lst [.int c, .int sd, .int ((i + 1 : Nat) : Int), .ref l])) b l c sd (i + 1) ns := B.put B.c0 B.s0 B.s1
      refine ⟨_, rfl, _, _, rfl, rfl, ⟨by decide, by decide, by decide⟩, _, _, rfl, rfl, _, rfl, ?_⟩
      have big : (0 : Int) < 2147483647 := by decide
      refine ite2 (fun _ => ?_) (fun _ => ?_)
      · refine ⟨_, rfl, _, rfl, b, _, 0, 0, rfl, rfl, B1.hb, rfl, ?_⟩
        have B2 := B1.put (i' := i + 1) z0 B1.s0 B1.s1
        refine ⟨_, rfl, b, _, 1, _, rfl, rfl, .inl (.inl B2.hb), rfl, _, _, rfl, rfl, .inr ⟨by decide, by decide⟩, _, rfl, .inl ⟨_, rfl, _, _, rfl, rfl, big, ?_⟩⟩
        refine ⟨_, _, rfl, rfl, _, rfl, b, _, 2, _, rfl, rfl, .inl (.inl B2.hb), rfl, _, _, rfl, rfl, .inl ⟨by decide, by decide⟩, _, _, rfl, rfl, _, rfl, .inl ⟨_, rfl, _, _, rfl, rfl, big, ?_⟩⟩
        refine ⟨_, rfl, b, _, 1, 1, rfl, rfl, B2.hb, rfl, ?_⟩
        have B3 := B2.put (i' := i + 1) B2.c0 (Int.emod_nonneg (sd * 48271 + z % 2147483647 + 7919 * ((i + 1 : Nat) : Int)) (show (2147483647 : Int) ≠ 0 by decide)) (Int.emod_lt_of_pos _ big)
        exact kk _ _ _ _ _ B3 fun a ha => by rw [upd_ne ha, upd_ne ha, upd_ne ha]
      · refine ⟨_, rfl, b, _, 1, _, rfl, rfl, .inl (.inl B1.hb), rfl, _, _, rfl, rfl, .inr ⟨by decide, by decide⟩, _, rfl, .inl ⟨_, rfl, _, _, rfl, rfl, big, ?_⟩⟩
        refine ⟨_, _, rfl, rfl, _, rfl, b, _, 2, _, rfl, rfl, .inl (.inl B1.hb), rfl, _, _, rfl, rfl, .inl ⟨by decide, by decide⟩, _, _, rfl, rfl, _, rfl, .inl ⟨_, rfl, _, _, rfl, rfl, big, ?_⟩⟩
        refine ⟨_, rfl, b, _, 1, 1, rfl, rfl, B1.hb, rfl, ?_⟩
        have B3 := B1.put (i' := i + 1) B1.c0 (Int.emod_nonneg (sd * 48271 + z % 2147483647 + 7919 * ((i + 1 : Nat) : Int)) (show (2147483647 : Int) ≠ 0 by decide)) (Int.emod_lt_of_pos _ big)
        exact kk _ _ _ _ _ B3 fun a ha => by rw [upd_ne ha, upd_ne ha]
    refine ⟨_, pss_cons (ps_if (pt_cmpR op_eq (pe_ix ix_list (pv 0) pe_int (fun _ _ => rfl)) pe_int (nomark _))
      (pss_cons (ps_set (i := 2) nd rfl (.inl rfl) pe_int)
      (pss_cons (ps_if (pt_cmpR op_lt (pe_ix ix_list (pv 0) pe_int (fun _ _ => rfl)) (pe_callB call_len (by rfl) T.len PySem.boot_len (pa_cons (pe_ix ix_list (pv 0) pe_int (fun _ _ => rfl)) pa_nil)) (nomark _))
          (pss_one (ps_set (i := 2) nd rfl (.inl rfl) (pe_ix ix_list (pe_ix ix_list (pv 0) pe_int (fun _ _ => rfl)) (pe_ix ix_list (pv 0) pe_int (fun _ _ => rfl)) (fun _ _ => rfl)))) pss_nil) hM)) pss_nil) hR, ?_⟩
    have sb : SqL K H b [.int c, .int sd, .int (i : Int), .ref l] := .inl (.inl B.hb)
    have sl : SqL K H l (ns.map V.int) := .inl (.inl B.hl)
    refine ⟨_, rfl, b, _, 0, _, rfl, rfl, sb, rfl, rfl, _, rfl, ?_⟩
    refine ite2 (fun _ => ?_) (fun _ => ?_)
    · refine ⟨_, rfl, b, _, 2, _, rfl, rfl, sb, rfl, _, rfl, b, _, 3, _, rfl, rfl, sb, rfl, _, _, rfl, .inl ⟨_, sl, rfl⟩, _, _, rfl, rfl, _, rfl, ?_⟩
      have fin : ∀ (z : Int) (H1 : Hp) (y : Option V) (c sd : Int) (i : Nat), Bag H1 b l c sd i ns → (∀ a, a ≠ b → H1 a = H a) → tR { nx := fun _ H' => Q .non H', rt := Q } [some (.ref b), some (.int m), some (.int z), y, none, none, none] H1 :=
        fun z H1 y c sd i B1 same => rd H1 _ y c sd i ns B1 same
      refine ite2 (fun hlt => ?_) (fun _ => ?_)
      · have hlt' : i < ns.length := by simpa using hlt
        have gz : (ns.map V.int)[i]? = some (.int ns[i]) := by simp [hlt']
        refine ⟨_, rfl, b, _, 3, _, rfl, rfl, sb, rfl, _, rfl, b, _, 2, _, rfl, rfl, sb, rfl, l, _, _, _, rfl, rfl, sl, at_of rfl gz, ?_⟩
        exact rdM _ _ (B.nz _ (List.getElem_mem _)) (fin _)
      · exact rdM _ 0 (Int.le_refl _) (fin _)
    exact rd H none none c sd i ns B fun _ _ => rfl
theorem scBag : FnScope ["_law_script", "_law_cell"] ["_law_script"] (defScope sBag) := ⟨rfl, rfl, rfl, by decide +kernel, rfl, by decide +kernel, by decide +kernel⟩
theorem cut_ints {ns : List Int} {lo hi : Option Int} : ∃ ms : List Int, cutV (ns.map V.int) lo hi = ms.map V.int ∧ ms.length ≤ ns.length := by
  refine ⟨(ns.drop (HT.sIx (ns.map V.int).length 0 lo)).take (HT.sIx (ns.map V.int).length (ns.map V.int).length hi - HT.sIx (ns.map V.int).length 0 lo), ?_, ?_⟩
  · unfold cutV
    rw [List.map_take, List.map_drop]
  · rw [List.length_take, List.length_drop]
    omega
theorem ok_bag {f : Addr} {fd : FuncData} (F : Fun K "_law_bag" "_law_bag" sBag f fd) (T : Blt mg) : FnOk P w K mg base CX0 1 f fd ["_law_script"] (spBag K) := by
  refine F.ok scBag (fun vs H Q E h => ?_) (fun cdv A outer s H vs Q E hr h => ?_)
  · obtain ⟨b, m, rfl, _⟩ := h
    rfl
  · obtain ⟨a, ns, rfl, hS, hl, k⟩ := h
    have nd := scBag.nd
    refine ⟨_, pss_one (ps_ret (pe_lst (pa_cons pe_int (pa_cons pe_int (pa_cons pe_int (pa_cons
      (pe_lc (own := [("_law_cell", 1)]) (g := gName 1) (tt := tYes) rfl nd (pi_list (pe_slice sl_list (pv 0) po_none (po_some pe_int))) (blkOk_by (N := ["_law_script", "_law_cell"]) (sc := defScope sBag) (by decide +kernel))
        (fun _ _ _ _ _ => pg_name (i := 1) nd rfl (Or.inl rfl)) (fun _ _ _ _ _ => pts_nil) (fun _ _ _ _ _ => pe_callB call_abs (by rfl) T.abs (by decide +kernel) (pa_cons (pv 1) pa_nil))) pa_nil)))))), ?_⟩
    obtain ⟨ms, e1, e2⟩ := cut_ints (ns := ns) (lo := none) (hi := some 63)
    refine ⟨_, rfl, _, rfl, a, _, rfl, hS, fun p np => ?_⟩
    rw [e1]
    refine ⟨p, rfl, ⟨_, .inl (.inl upd_same)⟩, fun D nD => ?_⟩
    have npD : p ≠ D := ne_of_none upd_same nD
    refine lc_list (K := K) (a := p) (xs := ms.map V.int) (fun i H2 => ∃ qs : List Int, H2 = upd (upd H p (.lst (ms.map V.int))) D (.lst (qs.map V.int)) ∧ qs.length = i ∧ ∀ q ∈ qs, 0 ≤ q) ⟨[], rfl, rfl, by simp⟩ ?_ ?_ ?_
    · rintro i H2 _ ⟨qs, rfl, _, _⟩
      exact .inl (.inl (by rw [upd_ne npD]; exact upd_same))
    · rintro i x H2 hi ⟨qs, rfl, hq, h0⟩
      obtain ⟨z, rfl⟩ : ∃ z, x = V.int z := by
        rw [List.getElem?_map] at hi
        obtain ⟨z, _, e⟩ := Option.map_eq_some_iff.mp hi
        exact ⟨z, e.symm⟩
      have hil : i < (ms.map V.int).length := (List.getElem?_eq_some_iff.mp hi).1
      rw [List.length_map] at hil
      refine ⟨rfl, _, rfl, _, rfl, _, upd_same, ?_, qs ++ [if z < 0 then -z else z], ?_, ?_, ?_⟩
      · rw [List.length_map]
        exact small1000 (by omega)
      · rw [upd_upd, List.map_append]
        rfl
      · rw [List.length_append, hq]
        rfl
      · intro q hm
        rcases List.mem_append.mp hm with hm | hm
        · exact h0 q hm
        · obtain rfl := List.mem_singleton.mp hm
          split <;> omega
    · rintro H2 ⟨qs, rfl, hq, h0⟩
      refine ⟨by show 4 ≤ sizeLine; decide, fun b nb => ?_⟩
      have nDb : D ≠ b := ne_of_none upd_same nb
      have npb : p ≠ b := by
        intro e
        rw [← e, upd_ne npD, upd_same] at nb
        cases nb
      have nb' : H b = none := by
        rw [upd_ne nDb.symm, upd_ne npb.symm] at nb
        exact nb
      refine k b D _ nb' (by rw [upd_ne npD.symm] at nD; exact nD) ⟨0, 1234567891, 0, qs, ⟨upd_same, by rw [upd_ne nDb, upd_same], h0, by decide, by decide, by decide⟩⟩ fun c o e => ?_
      rw [upd_ne (ne_of_none e nb'), upd_ne, upd_ne (ne_of_none e np)]
      · exact e
      · rintro rfl
        rw [upd_ne (ne_of_none e np), e] at nD
        cases nD
theorem scAlike : FnScope ["_law_one", "_law_other"] ["_law_one", "_law_other"] (defScope sAlike) := ⟨rfl, rfl, rfl, by decide +kernel, rfl, by decide +kernel, by decide +kernel⟩
theorem ok_alike {f : Addr} {fd : FuncData} (F : Fun K "_law_alike" "_law_alike" sAlike f fd) (T : Blt mg) (sm : SM base) : FnG P w K mg base 1 f fd ["_law_one", "_law_other"] (spAlike K) := by
  refine okG F scAlike (fun vs H Q E h => ?_) (fun cdv A outer s H vs Q E hg hr h => ?_)
  · obtain ⟨x, y, d, rfl, _⟩ := h
    rfl
  · obtain ⟨x, y, d, rfl, hx, hy, he, ⟨h1, h2, h3⟩, k⟩ := h
    refine ⟨_, pss_one (ps_ret (pe_and (pe_cmpR (op_eqOk hr.units) (pv 0) (pv 1) (nomark _)) (pe_one (pe_cmpR op_eq (pe_callB (call_rep hg hr.units sm) (by rfl) T.repr (by decide +kernel) (pa_cons (pv 0) pa_nil))
      (pe_callB (call_rep hg hr.units sm) (by rfl) T.repr (by decide +kernel) (pa_cons (pv 1) pa_nil)) (nomark _))))), ?_⟩
    refine ⟨_, rfl, _, rfl, he, true, rfl, ?_⟩
    refine iteT ⟨_, rfl, x, d, rfl, hx, h1, h2, h3, _, rfl, y, d, rfl, hy, h1, h2, h3, rfl, ?_⟩
    rw [decide_eq_true rfl]
    exact k
end
end AL
namespace AL
open PySem L2
abbrev sInteger : Stmt := top 2
abbrev sName : Stmt := top 3
abbrev sKind : Stmt := top 4
section
variable {P : Program} {w : World} {K : PySem.W.Frag} {mg : Str → Option Value} {base : Heap}
theorem one_lt (c d : Nat) : ([c] < [d]) ↔ c < d := by
  rw [List.cons_lt_cons_iff]
  constructor
  · rintro (h | ⟨_, h⟩)
    · exact h
    · exact absurd h (by simp)
  · exact Or.inl
theorem lo_a (c : Nat) : (!decide ((⟨#[c]⟩ : Str).cps.toList < (Str.ofString "a").cps.toList)) = decide (97 ≤ c) := by
  rw [show (Str.ofString "a").cps.toList = [97] by decide +kernel]
  have h := one_lt c 97
  by_cases z : c < 97
  · rw [decide_eq_true (h.mpr z), decide_eq_false (by omega)]
    rfl
  · rw [decide_eq_false (fun q => z (h.mp q)), decide_eq_true (by omega)]
    rfl
theorem hi_z (c : Nat) : (!decide ((Str.ofString "z").cps.toList < (⟨#[c]⟩ : Str).cps.toList)) = decide (c ≤ 122) := by
  rw [show (Str.ofString "z").cps.toList = [122] by decide +kernel]
  have h := one_lt 122 c
  by_cases z : 122 < c
  · rw [decide_eq_true (h.mpr z), decide_eq_false (by omega)]
    rfl
  · rw [decide_eq_false (fun q => z (h.mp q)), decide_eq_true (by omega)]
    rfl
/-- a question about a thing -/
def spP (p : V → Bool) : Sp := fun vs H Q _ => ∃ v, vs = [v] ∧ ThingV H v ∧ ∀ H', Ext H H' → Q (.bl (p v)) H'
theorem scInteger : FnScope ["thing"] ["thing"] (defScope sInteger) := ⟨rfl, rfl, rfl, by decide +kernel, rfl, by decide +kernel, by decide +kernel⟩
theorem ok_integer {f : Addr} {fd : FuncData} (F : Fun K "is_integer" "is_integer" sInteger f fd) (T : Blt mg) : FnOk P w K mg base CX0 1 f fd ["thing"] (spP isI) := by
  refine F.ok scInteger (fun vs H Q E h => ?_) (fun cdv A outer s H vs Q E hr h => ?_)
  · obtain ⟨v, rfl, _⟩ := h
    rfl
  · obtain ⟨v, rfl, hv, k⟩ := h
    refine ⟨_, pss_one (ps_ret (pe_and (pe_callB call_isi (by rfl) T.isinstance (by decide +kernel) (pa_cons (pv 0) (pa_cons (pe_bltn (v := .ty "int") (by rfl) T.int (by decide +kernel) rfl) pa_nil)))
      (pe_one (pe_not (pe_callB call_isi (by rfl) T.isinstance (by decide +kernel) (pa_cons (pv 0) (pa_cons (pe_bltn (v := .ty "bool") (by rfl) T.bool (by decide +kernel) rfl) pa_nil))))))), ?_⟩
    obtain ⟨t1, y1, e1⟩ := hv.isi (K := K) .I
    obtain ⟨t2, y2, e2⟩ := hv.isi (K := K) .B
    refine ⟨_, rfl, _, _, t1, _, _, rfl, .ty _, y1, e1, _, rfl, ?_⟩
    have q := k H (Ext.refl H)
    unfold isI at q
    cases e : tyB v .I with
    | true =>
      rw [e] at q
      refine iteT ⟨_, rfl, _, _, t2, _, _, rfl, .ty _, y2, e2, _, rfl, ?_⟩
      exact q
    | false =>
      rw [e] at q
      exact iteF q
theorem scName : FnScope ["thing", "letter"] ["thing"] (defScope sName) := ⟨rfl, rfl, rfl, by decide +kernel, rfl, by decide +kernel, by decide +kernel⟩
theorem ok_name {f : Addr} {fd : FuncData} (F : Fun K "is_name" "is_name" sName f fd) (T : Blt mg) : FnOk P w K mg base CX0 1 f fd ["thing"] (spP isN) := by
  refine F.ok scName (fun vs H Q E h => ?_) (fun cdv A outer s H vs Q E hr h => ?_)
  · obtain ⟨v, rfl, _⟩ := h
    rfl
  · obtain ⟨v, rfl, hv, k⟩ := h
    have nd := scName.nd
    refine ⟨_, pss_cons (ps_if (PW.pt (pw_or (pt_not (pt_val (pe_callB call_isi (by rfl) T.isinstance (by decide +kernel) (pa_cons (pv 0) (pa_cons (pe_bltn (v := .ty "str") (by rfl) T.str (by decide +kernel) rfl) pa_nil)))))
        (pw_or1 (pt_not (pt_chain op_le op_le pe_int (pe_callB call_len (by rfl) T.len PySem.boot_len (pa_cons (pv 0) pa_nil)) pe_int))))) (pss_one (ps_ret pe_bl)) pss_nil)
      (pss_one (ps_ret (pe_callB (cr_all rfl) (by rfl) T.all (by decide +kernel) (pa_cons
        (pe_lc (own := [("letter", 1)]) (g := gName 1) (tt := tYes) rfl nd (pi_str (pv 0)) (blkOk_by (N := ["thing", "letter"]) (sc := defScope sName) (by decide +kernel))
          (fun _ _ _ _ _ => pg_name (i := 1) nd rfl (Or.inl rfl)) (fun _ _ _ _ _ => pts_nil) (fun _ _ _ _ _ => pe_chain op_le_str op_le_str pe_str (pv 1) pe_str)) pa_nil)))), ?_⟩
    obtain ⟨t1, y1, e1⟩ := hv.isi (K := K) .S
    refine ⟨_, rfl, _, _, t1, _, _, rfl, .ty _, y1, e1, _, rfl, ?_⟩
    cases e : tyB v .S with
    | false =>
      refine iteT (iteT ?_)
      have q := k H (Ext.refl H)
      rw [show isN v = false by cases v <;> first | rfl | cases e] at q
      exact q
    | true =>
      obtain ⟨x, rfl, tx⟩ : ∃ x, v = .str x ∧ Tx 60 x := by
        cases hv with
        | str x t => exact ⟨x, rfl, t⟩
        | _ => cases e
      refine iteF ?_
      refine ⟨_, rfl, _, _, rfl, ⟨tx.line (by decide), rfl⟩, _, _, rfl, rfl, _, rfl, ?_⟩
      have fls : ¬ (1 ≤ x.length ∧ x.length ≤ 8) → Q (.bl false) H := fun z => by
        have q := k H (Ext.refl H)
        have e : (decide (1 ≤ x.length) && decide (x.length ≤ 8)) = false := by
          rw [Bool.eq_false_iff, ne_eq, Bool.and_eq_true, decide_eq_true_eq, decide_eq_true_eq]
          exact z
        rw [show isN (.str x) = false by simp only [isN, e, Bool.false_and]] at q
        exact q
      refine ite2 (fun h1 => ?_) (fun h1 => ?_)
      · have h1' : 1 ≤ x.length := by
          have := of_decide_eq_true h1
          omega
        refine ⟨_, _, rfl, rfl, _, rfl, ?_⟩
        refine ite2 (fun h2 => ?_) (fun h2 => ?_)
        · refine fls ?_
          have : ¬ ((x.length : Int) ≤ 8) := by simpa using h2
          omega
        · have h2' : x.length ≤ 8 := by
            have : (x.length : Int) ≤ 8 := by simpa using h2
            omega
          refine ⟨_, rfl, x, rfl, fun D nD => ?_⟩
          have ex : ∀ o, Ext H (upd H D o) := fun o => (Ext.refl H).new nD
          refine lc_it walk_str (fun i H2 => H2 = upd H D (.lst (((x.cps.toList.take i).map low).map V.bl))) (by simp) (fun _ _ _ _ => trivial) ?_ ?_
          · rintro i y H2 H3 hi rfl ⟨rfl, c, hc, rfl⟩
            have hc' : x.cps.toList[i]? = some c := by rw [Array.getElem?_toList]; exact hc
            refine ⟨rfl, _, rfl, _, _, rfl, rfl, _, rfl, ?_⟩
            have fin : ∀ b, b = low c → ∃ acc, (upd H D (.lst (((x.cps.toList.take i).map low).map V.bl))) D = some (.lst acc) ∧ acc.length < sizeLine ∧ upd (upd H D (.lst (((x.cps.toList.take i).map low).map V.bl))) D (.lst (acc ++ [V.bl b])) = upd H D (.lst (((x.cps.toList.take (i + 1)).map low).map V.bl)) := by
              rintro _ rfl
              refine ⟨_, upd_same, ?_, ?_⟩
              · rw [List.length_map, List.length_map, List.length_take]
                exact small1000 (Nat.le_trans (Nat.min_le_right _ _) (by rw [Array.length_toList]; exact Nat.le_trans h2' (by decide)))
              · rw [upd_upd, List.take_add_one, hc', List.map_append, List.map_append]
                rfl
            refine ite2 (fun h3 => ?_) (fun h3 => ?_)
            · refine ⟨_, _, rfl, rfl, fin _ ?_⟩
              rw [lo_a] at h3
              rw [hi_z, low, h3, Bool.true_and]
            · refine fin _ ?_
              rw [lo_a, Bool.not_eq_true] at h3
              rw [low, h3, Bool.false_and]
          · rintro H2 rfl
            refine ⟨_, _, rfl, .inl (.inl upd_same), ?_⟩
            have q := k _ (ex (.lst (((x.cps.toList.take x.cps.size).map low).map V.bl)))
            have e3 : isN (.str x) = ((x.cps.toList.take x.cps.size).map low).all id := by
              rw [← Array.length_toList, List.take_length, List.all_map]
              show (decide (1 ≤ x.length) && decide (x.length ≤ 8) && x.cps.toList.all low) = _
              rw [decide_eq_true h1', decide_eq_true h2']
              rfl
            rw [e3] at q
            exact q
      · refine ⟨_, rfl, iteT (fls ?_)⟩
        have : ¬ ((1 : Int) ≤ (x.length : Int)) := by simpa using h1
        omega
end
end AL
namespace AL
open PySem PySem.Spec PyProof.Rows L2
abbrev sKind2 : Stmt := top 4
abbrev sFreer : Stmt := top 5
abbrev sAsFree : Stmt := top 6
abbrev sKinds : Stmt := top 12
def kindsS : List Str := ["fixed", "stable", "changing", "effect"]
theorem kindsV_eq : kindsV = kindsS.map V.str := rfl
/-- the module's own row of the kinds, as the top has left it -/
structure KTup (K : PySem.W.Frag) (mg : Str → Option Value) (kd : Addr) : Prop where
  mgK : mg "KINDS" = some (.ref kd)
  ob : ∃ (o : Obj) (its : Array Value) (n : Nat), K.lookup kd = some o ∧ o.cls = .type "tuple" ∧ o.dict = none ∧ o.data = .seq its n ∧ its.size ≤ sizeLine ∧ Vals kindsV its.toList
theorem KTup.sq {K : PySem.W.Frag} {mg : Str → Option Value} {kd : Addr} (T : KTup K mg kd) (H : Hp) : SqT K H kd kindsV := by
  obtain ⟨o, its, n, h1, h2, _, h3, h4, h5⟩ := T.ob
  exact .inr ⟨o, its, n, h1, h2, h3, h4, h5⟩
theorem KTup.ty {K : PySem.W.Frag} {mg : Str → Option Value} {kd : Addr} (T : KTup K mg kd) (H : Hp) : tyV K "tuple" (.ref kd) H := by
  obtain ⟨o, its, n, h1, h2, h3, _⟩ := T.ob
  exact .inr (.inl ⟨rfl, o, h1, h2, h3⟩)
/-- t.index(x), t a tuple of texts in which x stands -/
def rTIndex (K : PySem.W.Frag) : V → List V → Hp → VK → Prop := fun x xs H Q => ∃ (a : Addr) (ys : List Str) (z : Str), x = .ref a ∧ xs = [.str z] ∧ SqT K H a (ys.map V.str) ∧ z ∈ ys ∧ Q (.int (ys.idxOf z : Nat)) H
theorem mt_tindex {X : Cx} : MtR X "tuple.index" (rTIndex X.K) := by
  intro pins s σ H x xs v us Q I rx rxs h
  obtain ⟨a, ys, z, rfl, rfl, hs, hz, q⟩ := h
  cases rx
  obtain ⟨u, rfl, t, rfl⟩ := vals1 rxs
  obtain ⟨its, rv, pl, _⟩ := I.tuple hs
  exact SeqAt.tuple_index_strs pl (Vals.strs rv) hz ⟨.int _, H, I.tok _, ⟨_, rfl⟩, q⟩
section
variable {P : Program} {w : World} {K : PySem.W.Frag} {mg : Str → Option Value} {base : Heap} {kd : Addr}
theorem ok_kind {f : Addr} {fd : FuncData} (F : Fun K "is_kind" "is_kind" sKind2 f fd) (T : Blt mg) (TK : KTup K mg kd) : FnOk P w K mg base CX0 1 f fd ["thing"] (spP isK) := by
  refine F.ok (N := ["thing"]) ⟨rfl, rfl, rfl, by decide +kernel, rfl, by decide +kernel, by decide +kernel⟩ (fun vs H Q E h => ?_) (fun cdv A outer s H vs Q E hr h => ?_)
  · obtain ⟨v, rfl, _⟩ := h
    rfl
  · obtain ⟨v, rfl, hv, k⟩ := h
    refine ⟨_, pss_one (ps_ret (pe_and (pe_callB call_isi (by rfl) T.isinstance (by decide +kernel) (pa_cons (pv 0) (pa_cons (pe_bltn (v := .ty "str") (by rfl) T.str (by decide +kernel) rfl) pa_nil)))
      (pe_one (pe_cmpR op_in_seq (pv 0) (pe_glob rfl TK.mgK (v := .ref kd) rfl) (by rfl))))), ?_⟩
    obtain ⟨t1, y1, e1⟩ := hv.isi (K := K) .S
    refine ⟨_, rfl, _, _, t1, _, _, rfl, .ty _, y1, e1, _, rfl, ?_⟩
    have q := k H (Ext.refl H)
    unfold isK at q
    cases e : tyB v .S with
    | true =>
      rw [e] at q
      have fl : flatV v = true := by cases v <;> first | rfl | cases e
      refine iteT ⟨_, rfl, kd, _, rfl, .inr (TK.sq H), fl, rfl, ?_⟩
      exact q
    | false =>
      rw [e] at q
      exact iteF q
/-- a comparison of two kinds by their places -/
def spF (p : Nat → Nat → Bool) : Sp := fun vs H Q _ => ∃ x y, vs = [.str x, .str y] ∧ x ∈ kindsS ∧ y ∈ kindsS ∧ Q (.bl (p (kindsS.idxOf x) (kindsS.idxOf y))) H
theorem ok_freer {f : Addr} {fd : FuncData} (F : Fun K "freer" "freer" sFreer f fd) (TK : KTup K mg kd) : FnOk P w K mg base CX0 1 f fd ["one", "other"] (spF fun i j => decide (i > j)) := by
  refine F.ok (N := ["one", "other"]) ⟨rfl, rfl, rfl, by decide +kernel, rfl, by decide +kernel, by decide +kernel⟩ (fun vs H Q E h => ?_) (fun cdv A outer s H vs Q E hr h => ?_)
  · obtain ⟨x, y, rfl, _⟩ := h
    rfl
  · obtain ⟨x, y, rfl, hx, hy, k⟩ := h
    refine ⟨_, pss_one (ps_ret (pe_cmpR op_gt (pe_bm PySem.F.plainAttrs_tuple PySem.F.slot_tuple_index PySem.F.type_tuple_index mt_tindex (pe_glob rfl TK.mgK (v := .ref kd) rfl) (pa_cons (pv 0) pa_nil))
      (pe_bm PySem.F.plainAttrs_tuple PySem.F.slot_tuple_index PySem.F.type_tuple_index mt_tindex (pe_glob rfl TK.mgK (v := .ref kd) rfl) (pa_cons (pv 1) pa_nil)) (nomark _))), ?_⟩
    refine ⟨TK.ty H, _, rfl, kd, kindsS, x, rfl, rfl, TK.sq H, hx, TK.ty H, _, rfl, kd, kindsS, y, rfl, rfl, TK.sq H, hy, _, _, rfl, rfl, ?_⟩
    have e : decide ((kindsS.idxOf y : Int) < (kindsS.idxOf x : Int)) = decide (kindsS.idxOf x > kindsS.idxOf y) := by simp
    show Q (.bl (decide ((kindsS.idxOf y : Int) < (kindsS.idxOf x : Int)))) H
    rw [e]
    exact k
theorem ok_asfree {f : Addr} {fd : FuncData} (F : Fun K "as_free" "as_free" sAsFree f fd) (TK : KTup K mg kd) : FnOk P w K mg base CX0 1 f fd ["one", "other"] (spF fun i j => decide (i ≥ j)) := by
  refine F.ok (N := ["one", "other"]) ⟨rfl, rfl, rfl, by decide +kernel, rfl, by decide +kernel, by decide +kernel⟩ (fun vs H Q E h => ?_) (fun cdv A outer s H vs Q E hr h => ?_)
  · obtain ⟨x, y, rfl, _⟩ := h
    rfl
  · obtain ⟨x, y, rfl, hx, hy, k⟩ := h
    refine ⟨_, pss_one (ps_ret (pe_cmpR op_ge (pe_bm PySem.F.plainAttrs_tuple PySem.F.slot_tuple_index PySem.F.type_tuple_index mt_tindex (pe_glob rfl TK.mgK (v := .ref kd) rfl) (pa_cons (pv 0) pa_nil))
      (pe_bm PySem.F.plainAttrs_tuple PySem.F.slot_tuple_index PySem.F.type_tuple_index mt_tindex (pe_glob rfl TK.mgK (v := .ref kd) rfl) (pa_cons (pv 1) pa_nil)) (nomark _))), ?_⟩
    refine ⟨TK.ty H, _, rfl, kd, kindsS, x, rfl, rfl, TK.sq H, hx, TK.ty H, _, rfl, kd, kindsS, y, rfl, rfl, TK.sq H, hy, _, _, rfl, rfl, ?_⟩
    have e : decide ((kindsS.idxOf y : Int) ≤ (kindsS.idxOf x : Int)) = decide (kindsS.idxOf x ≥ kindsS.idxOf y) := by simp
    show Q (.bl (decide ((kindsS.idxOf y : Int) ≤ (kindsS.idxOf x : Int)))) H
    rw [e]
    exact k
/-- a new list of the kinds -/
def spKinds : Sp := fun vs H Q _ => vs = [] ∧ ∀ p, H p = none → Q (.ref p) (upd H p (.lst kindsV))
theorem ok_kinds {f : Addr} {fd : FuncData} (F : Fun K "_law_kinds" "_law_kinds" sKinds f fd) : FnOk P w K mg base CX0 1 f fd [] spKinds := by
  refine F.ok (N := []) ⟨rfl, rfl, rfl, by decide +kernel, rfl, by decide +kernel, by decide +kernel⟩ (fun vs H Q E h => ?_) (fun cdv A outer s H vs Q E hr h => ?_)
  · obtain ⟨rfl, _⟩ := h
    rfl
  · obtain ⟨rfl, k⟩ := h
    refine ⟨_, pss_one (ps_ret (pe_lst (pa_cons pe_str (pa_cons pe_str (pa_cons pe_str (pa_cons pe_str pa_nil)))))), ?_⟩
    exact ⟨by show 4 ≤ sizeLine; decide, fun p hp => k p hp⟩
end
end AL
namespace AL
open PySem PySem.Spec PyProof.Rows L2
abbrev sDue : Stmt := top 14
theorem letters_low (c : Nat) : decide (c ∈ (Str.ofString "abcdefghijklmnopqrstuvwxyz").cps.toList) = low c := by
  rw [show (Str.ofString "abcdefghijklmnopqrstuvwxyz").cps.toList = [97, 98, 99, 100, 101, 102, 103, 104, 105, 106, 107, 108, 109, 110, 111, 112, 113, 114, 115, 116, 117, 118, 119, 120, 121, 122] by decide +kernel]
  unfold low
  rw [Bool.eq_iff_iff, decide_eq_true_eq, Bool.and_eq_true, decide_eq_true_eq, decide_eq_true_eq]
  simp only [List.mem_cons, List.not_mem_nil, or_false]
  omega
def sgn (c : Nat) : V := .str ⟨#[c]⟩
theorem signs_data {K : PySem.W.Frag} {H : Hp} : ∀ {cs : List Nat}, (∀ c ∈ cs, c < 128) → ∃ ds, DpAll K H (cs.map sgn) ds ∧ PyData.canLayAll0 ds = true ∧ PyData.depthAll ds = 0 ∧ ds.length = cs.length
  | [], _ => ⟨[], .nil, rfl, rfl, rfl⟩
  | c :: cs, h => by
    obtain ⟨ds, h1, h2, h3, h4⟩ := signs_data (K := K) (H := H) (cs := cs) fun c hc => h c (List.mem_cons_of_mem _ hc)
    have hc := h c List.mem_cons_self
    refine ⟨.str ⟨#[c]⟩ :: ds, .cons (.str _) h1, ?_, ?_, by simp [h4]⟩
    · have : (⟨#[c]⟩ : Str).cps.all (· < 0x110000) = true := by simp; omega
      simp only [PyData.canLayAll0, PyData.canLay0, PyData.strOk, h2, Bool.and_true]
      exact this
    · simp only [PyData.depthAll, PyData.depth, h3]
      rfl
section
variable {P : Program} {w : World} {K : PySem.W.Frag} {mg : Str → Option Value} {base : Heap} {kd : Addr}
/-- what the law's own reading promises: a new list of the three answers -/
def spDue : Sp := fun vs H Q _ => ∃ v, vs = [v] ∧ ThingV H v ∧ ∀ p H', H p = none → Ext H H' → H' p = some (.lst [.bl (isI v), .bl (isN v), .bl (isK v)]) → Q (.ref p) H'
theorem scDue : FnScope ["_law_thing_here", "_law_whole", "_law_named", "_law_sign"] ["_law_thing_here"] (defScope sDue) := ⟨rfl, rfl, rfl, by decide +kernel, rfl, by decide +kernel, by decide +kernel⟩
theorem ok_due {f fK : Addr} {fd fdK : FuncData} (F : Fun K "_law_due" "_law_due" sDue f fd) (T : Blt mg) (FK : Fun K "_law_kinds" "_law_kinds" sKinds fK fdK) (bK : Binds K fdK [] []) (mK : mg "_law_kinds" = some (.ref fK)) :
    FnOk P w K mg base CX0 2 f fd ["_law_thing_here"] spDue := by
  have GK : FnOk P w K mg base CX0 1 fK fdK [] spKinds := ok_kinds FK
  refine F.ok scDue (fun vs H Q E h => ?_) (fun cdv A outer s H vs Q E hr h => ?_)
  · obtain ⟨v, rfl, _⟩ := h
    rfl
  · obtain ⟨v, rfl, hv, k⟩ := h
    have nd := scDue.nd
    have hI : ∀ m : Ty3, ∃ t, TyX K H v t ∧ PySem.W.kitOne K t (.type m.nm) = some (tyB v m) := fun m => hv.isi m
    obtain ⟨tI, yI, eI⟩ := hI .I
    obtain ⟨tB, yB, eB⟩ := hI .B
    obtain ⟨tS, yS, eS⟩ := hI .S
    -- return [..]
    obtain ⟨tF, hF, rdF⟩ : ∃ tF, PSs (cxOf CX0 P w K mg base ["_law_thing_here", "_law_whole", "_law_named", "_law_sign"] "_law_due" (defScope sDue) f cdv A outer s H E).nox ((defBody sDue).drop 3) tF ∧
        ∀ (H1 : Hp) (x : Option V), Ext H H1 → tF { nx := fun _ H' => Q .non H', rt := Q } [some v, some (.bl (isI v)), some (.bl (isN v)), x] H1 := by
      refine ⟨_, pss_one (ps_ret (pe_lst (pa_cons (pv 1) (pa_cons (pv 2) (pa_cons
          (pe_and (pe_callB call_isi (by rfl) T.isinstance (by decide +kernel) (pa_cons (pv 0) (pa_cons (pe_bltn (v := .ty "str") (by rfl) T.str (by decide +kernel) rfl) pa_nil)))
            (pe_one (pe_cmpR op_in_seq (pv 0) (pe_call0 GK hr rfl mK FK.kp bK .nil pass0) (by rfl)))) pa_nil))))), ?_⟩
      intro H1 x ex
      have hv1 := hv.ext ex
      obtain ⟨t1, y1, e1⟩ := hv1.isi (K := K) .S
      refine ⟨_, rfl, _, rfl, _, rfl, _, _, t1, _, _, rfl, .ty _, y1, e1, _, rfl, ?_⟩
      cases e : tyB v .S with
      | true =>
        have fl : flatV v = true := by cases v <;> first | rfl | cases e
        refine iteT ⟨_, rfl, rfl, fun p hp => ?_⟩
        refine ⟨p, _, rfl, .inl (.inl (.inl upd_same)), fl, rfl, by show 3 ≤ sizeLine; decide, fun q hq => ?_⟩
        refine k q _ (ex.back ((Ext.refl H1).new hp |>.back hq)) ((ex.new hp).new hq) ?_
        rw [upd_same]
        unfold isK
        rw [e]
        rfl
      | false =>
        refine iteF ⟨by show 3 ≤ sizeLine; decide, fun q hq => ?_⟩
        refine k q _ (ex.back hq) (ex.new hq) ?_
        rw [upd_same]
        unfold isK
        rw [e]
        rfl
    -- if named: ..
    obtain ⟨tM, hM, rdM⟩ : ∃ tM, PSs (cxOf CX0 P w K mg base ["_law_thing_here", "_law_whole", "_law_named", "_law_sign"] "_law_due" (defScope sDue) f cdv A outer s H E).nox ((defBody sDue).drop 1) tM ∧
        tM { nx := fun _ H' => Q .non H', rt := Q } [some v, some (.bl (isI v)), none, none] H := by
      refine ⟨_, pss_cons (ps_set (i := 2) nd rfl (.inl rfl) (pe_and (pe_callB call_isi (by rfl) T.isinstance (by decide +kernel) (pa_cons (pv 0) (pa_cons (pe_bltn (v := .ty "str") (by rfl) T.str (by decide +kernel) rfl) pa_nil)))
          (pe_one (pe_chain op_lt op_lt pe_int (pe_callB call_len (by rfl) T.len PySem.boot_len (pa_cons (pv 0) pa_nil)) pe_int))))
        (pss_cons (ps_if (pt_val (pv 2)) (pss_one (ps_set (i := 2) nd rfl (.inl rfl) (pe_cmpR (op_eqD hr.units)
          (pe_lc (own := [("_law_sign", 3)]) (g := gName 3) (tt := _) rfl nd (pi_str (pv 0)) (blkOk_by (N := ["_law_thing_here", "_law_whole", "_law_named", "_law_sign"]) (sc := defScope sDue) (by decide +kernel))
            (fun _ _ _ _ _ => pg_name (i := 3) nd rfl (Or.inl rfl)) (fun _ _ _ _ _ => pts_one (pt_cmpR op_notIn_sign (pv 3) pe_str (by rfl))) (fun _ _ _ _ _ => pv 3))
          (pe_lst pa_nil) (nomark _)))) pss_nil) hF), ?_⟩
      refine ⟨_, rfl, _, _, tS, _, _, rfl, .ty _, yS, eS, _, rfl, ?_⟩
      cases e : tyB v .S with
      | false =>
        have q := rdF H none (Ext.refl H)
        rw [show isN v = false by cases v <;> first | rfl | cases e] at q
        exact iteF ⟨_, rfl, _, rfl, iteF q⟩
      | true =>
        obtain ⟨x, rfl, tx⟩ : ∃ x, v = .str x ∧ Tx 60 x := by
          cases hv with
          | str x t => exact ⟨x, rfl, t⟩
          | _ => cases e
        refine iteT ⟨_, rfl, _, _, rfl, ⟨tx.line (by decide), rfl⟩, _, _, rfl, rfl, _, rfl, ?_⟩
        have fls : ¬ (1 ≤ x.length ∧ x.length ≤ 8) → tF { nx := fun _ H' => Q .non H', rt := Q } [some (.str x), some (.bl (isI (.str x))), some (.bl false), none] H := fun z => by
          have q := rdF H none (Ext.refl H)
          have e : (decide (1 ≤ x.length) && decide (x.length ≤ 8)) = false := by
            rw [Bool.eq_false_iff, ne_eq, Bool.and_eq_true, decide_eq_true_eq, decide_eq_true_eq]
            exact z
          rw [show isN (.str x) = false by simp only [isN, e, Bool.false_and]] at q
          exact q
        refine ite2 (fun h1 => ?_) (fun h1 => ?_)
        · refine ⟨_, _, rfl, rfl, _, rfl, _, rfl, ?_⟩
          refine ite2 (fun h2 => ?_) (fun h2 => ?_)
          · have hl : 1 ≤ x.length ∧ x.length ≤ 8 := by
              have a1 := of_decide_eq_true h1
              have a2 := of_decide_eq_true h2
              omega
            refine ⟨_, rfl, x, rfl, fun D nD => ?_⟩
            refine lc_it walk_str (fun i H2 => H2 = upd H D (.lst (((x.cps.toList.take i).filter fun c => !low c).map sgn))) (by simp) (fun _ _ _ _ => trivial) ?_ ?_
            · rintro i y H2 H3 hi rfl ⟨rfl, c, hc, rfl⟩
              have hc' : x.cps.toList[i]? = some c := by rw [Array.getElem?_toList]; exact hc
              refine ⟨rfl, _, rfl, c, _, rfl, rfl, _, rfl, ?_⟩
              rw [letters_low]
              refine ite2 (fun h3 => ?_) (fun h3 => ?_)
              · refine ⟨_, rfl, _, upd_same, ?_, ?_⟩
                · rw [List.length_map]
                  refine small1000 (Nat.le_trans (List.length_filter_le _ _) ?_)
                  rw [List.length_take]
                  exact Nat.le_trans (Nat.min_le_right _ _) (by rw [Array.length_toList]; exact Nat.le_trans hl.2 (by decide))
                · rw [upd_upd, List.take_add_one, hc', List.filter_append, List.map_append]
                  simp only [Option.toList_some, List.filter_cons, h3, if_true, List.filter_nil]
                  rfl
              · show upd H D _ = upd H D _
                rw [List.take_add_one, hc', List.filter_append]
                have h3' : (!low c) = false := by simpa using h3
                simp only [Option.toList_some, List.filter_cons, h3', List.filter_nil, List.append_nil]
                simp
            · rintro H2 rfl
              have ex1 : Ext H (upd H D (.lst (((x.cps.toList.take x.cps.size).filter fun c => !low c).map sgn))) := (Ext.refl H).new nD
              refine ⟨by show 0 ≤ sizeLine; decide, fun p hp => ?_⟩
              have ex2 : Ext H (upd (upd H D (.lst (((x.cps.toList.take x.cps.size).filter fun c => !low c).map sgn))) p (.lst [])) := ex1.new hp
              obtain ⟨ds, d1, d2, d3, d4⟩ := signs_data (K := K) (H := upd (upd H D (.lst (((x.cps.toList.take x.cps.size).filter fun c => !low c).map sgn))) p (.lst [])) (cs := (x.cps.toList.take x.cps.size).filter fun c => !low c)
                fun c hc => tx.as c (List.mem_of_mem_take (List.mem_filter.mp hc).1)
              have nDp : D ≠ p := ne_of_none upd_same hp
              refine ⟨.list ds, .list [], .lst (.inl (.inl (by rw [upd_ne nDp]; exact upd_same))) d1, .lst (.inl (.inl upd_same)) .nil, ?_, rfl, ?_⟩
              · simp only [SeqAt.shaped, PyData.canLay0, d2, PyData.depth, d3]
                rfl
              · have q := rdF _ none ex2
                have e4 : isN (.str x) = PyData.eqv (.list ds) (.list []) := by
                  show (decide (1 ≤ x.length) && decide (x.length ≤ 8) && x.cps.toList.all low) = _
                  rw [decide_eq_true hl.1, decide_eq_true hl.2]
                  rw [← Array.length_toList, List.take_length] at d4
                  simp only [Bool.true_and]
                  cases ds with
                  | nil =>
                    have e5 : x.cps.toList.filter (fun c => !low c) = [] := List.length_eq_zero_iff.mp d4.symm
                    rw [List.filter_eq_nil_iff] at e5
                    show x.cps.toList.all low = true
                    rw [List.all_eq_true]
                    intro c hc
                    simpa using e5 c hc
                  | cons d ds =>
                    show x.cps.toList.all low = false
                    cases e6 : x.cps.toList.all low with
                    | false => rfl
                    | true =>
                      rw [List.all_eq_true] at e6
                      have e7 : x.cps.toList.filter (fun c => !low c) = [] := List.filter_eq_nil_iff.mpr fun c hc => by simp [e6 c hc]
                      rw [e7] at d4
                      cases d4
                rw [e4] at q
                exact q
          · have : ¬ ((x.length : Int) < 9) := by simpa using h2
            have q := fls (by omega)
            have e5 : decide ((x.length : Int) < 9) = false := decide_eq_false this
            show tF _ [some (.str x), some (.bl (isI (.str x))), some (.bl (decide ((x.length : Int) < 9))), none] H
            rw [e5]
            exact q
        · refine ⟨_, rfl, _, rfl, iteF (fls ?_)⟩
          have : ¬ ((0 : Int) < (x.length : Int)) := by simpa using h1
          omega
    refine ⟨_, pss_cons (ps_set (i := 1) nd rfl (.inl rfl) (pe_and (pe_callB call_isi (by rfl) T.isinstance (by decide +kernel) (pa_cons (pv 0) (pa_cons (pe_bltn (v := .ty "int") (by rfl) T.int (by decide +kernel) rfl) pa_nil)))
        (pe_one (pe_not (pe_callB call_isi (by rfl) T.isinstance (by decide +kernel) (pa_cons (pv 0) (pa_cons (pe_bltn (v := .ty "bool") (by rfl) T.bool (by decide +kernel) rfl) pa_nil))))))) hM, ?_⟩
    refine ⟨_, rfl, _, _, tI, _, _, rfl, .ty _, yI, eI, _, rfl, ?_⟩
    unfold isI at rdM
    cases e : tyB v .I with
    | true =>
      rw [e] at rdM
      exact iteT ⟨_, rfl, _, _, tB, _, _, rfl, .ty _, yB, eB, _, rfl, rdM⟩
    | false =>
      rw [e] at rdM
      exact iteF rdM
end
end AL
namespace AL
open PySem PySem.Spec PyProof.Rows L2
abbrev s_names : Stmt := top 11
section
variable {P : Program} {w : World} {K : PySem.W.Frag} {mg : Str → Option Value} {base : Heap} {kd : Addr}
/-- drawn names promise: a new list of as many short ASCII texts; nothing else but the bag has changed -/
def spNames : Sp := fun vs H Q _ => ∃ (b l : Addr) (many : Nat), vs = [.ref b, .int many] ∧ BagS H b l ∧ many ≤ 8 ∧
  ∀ (p : Addr) (ys : List Str) (H' : Hp), H p = none → BagS H' b l → ExtB b H H' → H' p = some (.lst (ys.map V.str)) → ys.length = many → (∀ y ∈ ys, Tx 8 y) → Q (.ref p) H'
def menu : List Str := Txt.split (Str.ofString "a b each call same unlike use kept show mark put") (Str.ofString " ") ++ Txt.split (Str.ofString "take move keep kind end fixed effect plan log x") (Str.ofString " ")
theorem cut3 {mn : List Str} (t21 : mn.length = 21) (t8 : ∀ y ∈ mn, Tx 8 y) {t m : Nat} (ht : t < 21) (hm : m ≤ 8) :
    ∃ ys : List Str, cutV (cutV (mn.map V.str) (some (t : Int)) none ++ cutV (mn.map V.str) none (some (t : Int))) none (some (m : Int)) = ys.map V.str ∧ ys.length = m ∧ ∀ y ∈ ys, Tx 8 y := by
  rw [cutV_map, cutV_map, ← List.map_append, cutV_map]
  refine ⟨_, rfl, ?_, ?_⟩
  · simp only [List.length_take, List.length_drop, List.length_append, HT.sIx_nat, HT.sIx_none, t21]
    omega
  · intro y hy
    have hy' := List.mem_of_mem_drop (List.mem_of_mem_take hy)
    rcases List.mem_append.mp hy' with z | z
    · exact t8 y (List.mem_of_mem_drop (List.mem_of_mem_take z))
    · exact t8 y (List.mem_of_mem_drop (List.mem_of_mem_take z))
theorem scNames : FnScope ["_law_bag_here", "_law_many", "_law_menu", "_law_letters", "_law_way", "_law_turn", "_law_k"] ["_law_bag_here", "_law_many"] (defScope s_names) := ⟨rfl, rfl, rfl, by decide +kernel, rfl, by decide +kernel, by decide +kernel⟩
theorem ok_names {f f_take : Addr} {fd fd_take : FuncData} (F : Fun K "_law_names" "_law_names" s_names f fd) (T : Blt mg) (F_take : Fun K "_law_take" "_law_take" sTake f_take fd_take) (b_take : Binds K fd_take ["_law_bag_here", "_law_most"] []) (m_take : mg "_law_take" = some (.ref f_take)) :
    FnOk P w K mg base CX0 2 f fd ["_law_bag_here", "_law_many"] spNames := by
  have G_take : FnOk P w K mg base CX0 1 f_take fd_take ["_law_bag_here", "_law_most"] spTake := ok_take F_take T
  refine F.ok scNames (fun vs H Q E h => ?_) (fun cdv A outer s H vs Q E hr h => ?_)
  · obtain ⟨b, l, many, rfl, _⟩ := h
    rfl
  · obtain ⟨b, l, many, rfl, hB, hm, k⟩ := h
    have nd := scNames.nd
    refine ⟨_, (pss_cons (ps_set (i := 2) nd rfl (.inl rfl) (pe_split pe_str pe_str)) (pss_cons (ps_set (i := 2) nd rfl (.inl rfl) (pe_op op_cat (pv 2) (pe_split pe_str pe_str))) (pss_cons (ps_set (i := 3) nd rfl (.inr rfl) pe_str) (pss_cons (ps_asg (pe_tup (pa_cons (pe_call G_take (hr.mono (by decide)) (by rfl) m_take F_take.kp b_take .nil pass0 (pa_cons (pv 0) (pa_cons pe_int pa_nil))) (pa_cons (pe_call G_take (hr.mono (by decide)) (by rfl) m_take F_take.kp b_take .nil pass0 (pa_cons (pv 0) (pa_cons pe_int pa_nil))) pa_nil))) (pg_tup (by rfl) (pgs_cons (pg_name (i := 4) nd rfl (Or.inl rfl)) (pgs_cons (pg_name (i := 5) nd rfl (Or.inr rfl)) pgs_nil)))) (pss_cons (ps_if (pt_cmpR op_lt (pv 4) pe_int (nomark _)) (pss_one (ps_ret (pe_slice sl_list (pe_op op_cat (pe_slice sl_list (pv 2) (po_some (pv 5)) po_none) (pe_slice sl_list (pv 2) po_none (po_some (pv 5)))) po_none (po_some (pv 1))))) pss_nil) (pss_cons (ps_if (pt_cmpR op_eq (pv 4) pe_int (nomark _)) (pss_one (ps_ret (pe_lc (own := [("_law_k", 6)]) (g := gName 6) (tt := tYes) rfl nd (pi_range1 rfl T.range (pa_cons (pv 1) pa_nil)) (blkOk_by (N := ["_law_bag_here", "_law_many", "_law_menu", "_law_letters", "_law_way", "_law_turn", "_law_k"]) (sc := defScope s_names) (by decide +kernel)) (fun _ _ _ _ _ => (pg_name (i := 6) nd rfl (Or.inl rfl))) (fun _ _ _ _ _ => pts_nil) (fun _ _ _ _ _ => (pe_ix ix_str (pv 3) (pe_op op_mod (pe_callTy call_int1 (by rfl) T.int (by decide +kernel) (pa_cons (pe_op op_add (pv 5) (pe_op op_mul pe_int (pv 6))) pa_nil)) pe_int) (fun _ _ => rfl)))))) pss_nil) (pss_one (ps_ret (pe_lc (own := [("_law_k", 6)]) (g := gName 6) (tt := tYes) rfl nd (pi_range1 rfl T.range (pa_cons (pv 1) pa_nil)) (blkOk_by (N := ["_law_bag_here", "_law_many", "_law_menu", "_law_letters", "_law_way", "_law_turn", "_law_k"]) (sc := defScope s_names) (by decide +kernel)) (fun _ _ _ _ _ => (pg_name (i := 6) nd rfl (Or.inl rfl))) (fun _ _ _ _ _ => pts_nil) (fun _ _ _ _ _ => (pe_op op_mulS (pe_ix ix_str (pv 3) (pv 5) (fun _ _ => rfl)) (pe_op op_sub pe_int (pv 6))))))))))))), ?_⟩
    refine ⟨⟨_, rfl⟩, _, _, rfl, rfl, by decide, by decide, fun p1 n1 => ?_⟩
    refine ⟨_, rfl, ⟨_, rfl⟩, _, _, rfl, rfl, by decide, by decide, fun p2 n2 => ?_⟩
    have n12 : p1 ≠ p2 := ne_of_none upd_same n2
    refine ⟨p1, p2, _, _, rfl, rfl, by rw [upd_ne n12]; exact upd_same, upd_same, by decide +kernel, fun p3 n3 => ?_⟩
    have e3 : Ext H (upd (upd (upd H p1 (.lst ((Txt.split (Str.ofString "a b each call same unlike use kept show mark put") (Str.ofString " ")).map V.str))) p2 (.lst ((Txt.split (Str.ofString "take move keep kind end fixed effect plan log x") (Str.ofString " ")).map V.str))) p3 (.lst ((menu).map V.str))) := (((Ext.refl H).new n1).new n2).new n3
    rw [← List.map_append]
    have h3 : (upd (upd (upd H p1 (.lst ((Txt.split (Str.ofString "a b each call same unlike use kept show mark put") (Str.ofString " ")).map V.str))) p2 (.lst ((Txt.split (Str.ofString "take move keep kind end fixed effect plan log x") (Str.ofString " ")).map V.str))) p3 (.lst ((menu).map V.str))) p3 = some (.lst (menu.map V.str)) := upd_same
    have nb3 : p3 ≠ b := by
      rintro rfl
      obtain ⟨o, h⟩ := hB.some
      exact absurd (((((Ext.refl H).new n1).new n2) _ _ h).symm.trans n3) (by simp)
    rw [show (Txt.split (Str.ofString "a b each call same unlike use kept show mark put") (Str.ofString " ") ++ Txt.split (Str.ofString "take move keep kind end fixed effect plan log x") (Str.ofString " ")) = menu from rfl]
    generalize upd (upd (upd H p1 _) p2 _) p3 _ = H3 at e3 h3
    have t21 : menu.length = 21 := by decide +kernel
    have t8 : ∀ y ∈ menu, Tx 8 y := Tx.all (by decide +kernel)
    generalize menu = mn at h3 t21 t8
    refine ⟨_, rfl, b, l, 4, rfl, hB.ext e3, by decide, by decide, fun way H4 w0 w1 B4 s4 => ?_⟩
    refine ⟨_, rfl, b, l, 21, rfl, B4, by decide, by decide, fun turn H5 r0 r1 B5 s5 => ?_⟩
    refine ⟨by show 2 ≤ sizeLine; decide, fun t nt => ⟨t, _, rfl, .inl (.inl upd_same), rfl, _, _, rfl, _, _, rfl, rfl, ?_⟩⟩
    have e5 : ExtB b H H5 := (e3.b.trans (.of s4)).trans (.of s5)
    have h5 : H5 p3 = some (.lst (mn.map V.str)) := by rw [s5 _ nb3, s4 _ nb3]; exact h3
    have e6 : ExtB b H (upd H5 t (.tup [.int way, .int turn])) := e5.new nt
    have B6 : BagS (upd H5 t (.tup [.int way, .int turn])) b l := B5.ext ((Ext.refl H5).new nt)
    have h6 : (upd H5 t (.tup [.int way, .int turn])) p3 = some (.lst (mn.map V.str)) := ((Ext.refl H5).new nt) _ _ h5
    generalize (upd H5 t (.tup [.int way, .int turn])) = H6 at e6 B6 h6
    refine ⟨_, rfl, _, _, rfl, rfl, _, rfl, ?_⟩
    refine ite2 (fun _ => ?_) (fun _ => ?_)
    · obtain ⟨tn, rfl⟩ : ∃ tn : Nat, turn = (tn : Int) := ⟨turn.toNat, by omega⟩
      refine ⟨_, rfl, _, rfl, _, rfl, p3, _, rfl, .inl (.inl h6), fun q1 m1 => ?_⟩
      have h7 := ((Ext.refl H6).new (o := .lst (cutV (mn.map V.str) (some (tn : Int)) none)) m1) _ _ h6
      refine ⟨_, rfl, _, rfl, _, rfl, p3, _, rfl, .inl (.inl h7), fun q2 m2 => ?_⟩
      have n12' : q1 ≠ q2 := ne_of_none upd_same m2
      refine ⟨q1, q2, _, _, rfl, rfl, by rw [upd_ne n12']; exact upd_same, upd_same, ?_, fun q3 m3 => ?_⟩
      · have l1 := cutV_length (mn.map V.str) (some (tn : Int)) none
        have l2 := cutV_length (mn.map V.str) none (some (tn : Int))
        rw [List.length_map] at l1 l2
        exact Nat.le_trans (show _ ≤ 42 by omega) (by decide)
      refine ⟨_, rfl, _, rfl, q3, _, rfl, .inl (.inl upd_same), fun q4 m4 => ?_⟩
      have ee := ((((Ext.refl H6).new (o := .lst (cutV (mn.map V.str) (some (tn : Int)) none)) m1).new (o := .lst (cutV (mn.map V.str) none (some (tn : Int)))) m2).new (o := .lst (cutV (mn.map V.str) (some (tn : Int)) none ++ cutV (mn.map V.str) none (some (tn : Int)))) m3)
      have nq4 := e6.back B6 (ee.back m4)
      obtain ⟨ys, y1, y2, y3⟩ := cut3 t21 t8 (t := tn) (m := many) (by omega) hm
      rw [y1] at *
      exact k q4 ys _ nq4 (B6.ext (ee.new m4)) (e6.trans (ee.new m4).b) upd_same y2 y3
    · refine ⟨_, rfl, rfl, _, rfl, ?_⟩
      have lz : (Str.ofString "abcdefghijklmnopqrstuvwxyz").cps.toList.length = 26 := by decide +kernel
      have l8 : ∀ c ∈ (Str.ofString "abcdefghijklmnopqrstuvwxyz").cps.toList, c < 128 := by decide +kernel
      have at26 : ∀ j : Int, 0 ≤ j → j < 26 → ∃ c, atI (Str.ofString "abcdefghijklmnopqrstuvwxyz").cps.toList j = some c ∧ c < 128 := by
        intro j j0 j1
        obtain ⟨n, rfl⟩ : ∃ n : Nat, j = (n : Int) := ⟨j.toNat, by omega⟩
        have hn : n < (Str.ofString "abcdefghijklmnopqrstuvwxyz").cps.toList.length := by rw [lz]; omega
        exact ⟨_, atI_nat (List.getElem?_eq_getElem hn), l8 _ (List.getElem_mem hn)⟩
      refine ite2 (fun _ => ?_) (fun _ => ?_)
      all_goals
        refine ⟨_, rfl, (many : Int), rfl, by omega, by omega, fun D nD => ?_⟩
        refine lc_range (lo := 0) (n := (many : Int).toNat) (fun i H2 => ∃ ys : List Str, H2 = upd H6 D (.lst (ys.map V.str)) ∧ ys.length = i ∧ ∀ y ∈ ys, Tx 8 y) ⟨[], rfl, rfl, by simp⟩ ?_ ?_
      · rintro i H2 hi ⟨ys, rfl, y1, y2⟩
        obtain ⟨c, c1, c2⟩ := at26 ((turn + 3 * (0 + (i : Int))) % 26) (Int.emod_nonneg _ (by decide)) (Int.emod_lt_of_pos _ (by decide))
        refine ⟨rfl, _, rfl, _, rfl, _, rfl, _, _, rfl, rfl, .inl ⟨by decide, by decide⟩, _, _, rfl, rfl, .inl ⟨_, rfl, _, _, rfl, rfl, (by show (0 : Int) < 26; decide), _, _, c, rfl, rfl, by decide +kernel, c1, _, upd_same, ?_, ys ++ [⟨#[c]⟩], ?_, ?_, ?_⟩⟩
        · rw [List.length_map]
          exact small1000 (by omega)
        · rw [upd_upd, List.map_append]
          rfl
        · rw [List.length_append, y1]
          rfl
        · intro y hy
          rcases List.mem_append.mp hy with z | z
          · exact y2 y z
          · rw [List.mem_singleton.mp z]
            exact (tx_one c2).up (by decide)
      · rintro H2 ⟨ys, rfl, y1, y2⟩
        exact k D ys _ (e6.back B6 nD) (B6.ext ((Ext.refl H6).new nD)) (e6.new nD) upd_same (by omega) y2
      · rintro i H2 hi ⟨ys, rfl, y1, y2⟩
        obtain ⟨c, c1, c2⟩ := at26 turn r0 (by omega)
        refine ⟨rfl, _, rfl, _, rfl, _, _, c, rfl, rfl, by decide +kernel, c1, _, rfl, _, _, rfl, rfl, _, _, rfl, rfl, by show 1 ≤ 1000; decide, by omega, by omega, _, upd_same, ?_, ys ++ [Txt.mul ⟨#[c]⟩ (8 - (0 + (i : Int)))], ?_, ?_, ?_⟩
        · rw [List.length_map]
          exact small1000 (by omega)
        · rw [upd_upd, List.map_append]
          rfl
        · rw [List.length_append, y1]
          rfl
        · intro y hy
          rcases List.mem_append.mp hy with z | z
          · exact y2 y z
          · rw [List.mem_singleton.mp z]
            exact ((tx_one c2).mul (k := 8) (by omega) (by omega)).up (by decide)
      · rintro H2 ⟨ys, rfl, y1, y2⟩
        exact k D ys _ (e6.back B6 nD) (B6.ext ((Ext.refl H6).new nD)) (e6.new nD) upd_same (by omega) y2
end
end AL
namespace AL
open PySem PySem.Spec PyProof.Rows L2
abbrev s_thing : Stmt := top 13
theorem at_map {α : Type} {f : α → V} {xs : List α} {r : Int} (h0 : 0 ≤ r) (h1 : r < (xs.length : Int)) : ∃ x ∈ xs, atI (xs.map f) r = some (f x) := by
  obtain ⟨n, rfl⟩ : ∃ n : Nat, r = (n : Int) := ⟨r.toNat, by omega⟩
  have hn : n < xs.length := by omega
  exact ⟨xs[n], List.getElem_mem hn, atI_nat (by rw [List.getElem?_map, List.getElem?_eq_getElem hn]; rfl)⟩
section
variable {P : Program} {w : World} {K : PySem.W.Frag} {mg : Str → Option Value} {base : Heap} {kd : Addr}
/-- a drawn thing -/
def spThing : Sp := fun vs H Q _ => ∃ (b l nl : Addr) (ys : List Str), vs = [.ref b, .ref nl] ∧ BagS H b l ∧ H nl = some (.lst (ys.map V.str)) ∧ ys.length = 3 ∧ (∀ y ∈ ys, Tx 8 y) ∧
  ∀ (v : V) (H' : Hp), BagS H' b l → ExtB b H H' → ThingV H' v → (∀ a, v = .ref a → H a = none) → Q v H'
theorem scThing : FnScope ["_law_bag_here", "_law_names_here", "_law_label", "_law_at", "_law_sign", "_law_some"] ["_law_bag_here", "_law_names_here"] (defScope s_thing) := ⟨rfl, rfl, rfl, by decide +kernel, rfl, by decide +kernel, by decide +kernel⟩
theorem ok_thing {f f_take f_kinds : Addr} {fd fd_take fd_kinds : FuncData} (F : Fun K "_law_thing" "_law_thing" s_thing f fd) (T : Blt mg)
    (F_take : Fun K "_law_take" "_law_take" sTake f_take fd_take) (b_take : Binds K fd_take ["_law_bag_here", "_law_most"] []) (m_take : mg "_law_take" = some (.ref f_take))
    (F_kinds : Fun K "_law_kinds" "_law_kinds" sKinds f_kinds fd_kinds) (b_kinds : Binds K fd_kinds [] []) (m_kinds : mg "_law_kinds" = some (.ref f_kinds)) :
    FnOk P w K mg base CX0 2 f fd ["_law_bag_here", "_law_names_here"] spThing := by
  have G_take : FnOk P w K mg base CX0 1 f_take fd_take ["_law_bag_here", "_law_most"] spTake := ok_take F_take T
  have G_kinds : FnOk P w K mg base CX0 1 f_kinds fd_kinds [] spKinds := ok_kinds F_kinds
  refine F.ok scThing (fun vs H Q E h => ?_) (fun cdv A outer s H vs Q E hr h => ?_)
  · obtain ⟨b, l, nl, ys, rfl, _⟩ := h
    rfl
  · obtain ⟨b, l, nl, ys, rfl, hB, hnl, y3, y8, k⟩ := h
    have nd := scThing.nd
    refine ⟨_, (pss_cons (ps_set (i := 2) nd rfl (.inl rfl) (pe_ix ix_list (pe_op op_cat (pv 1) (pe_call0 G_kinds (hr.mono (by decide)) (by rfl) m_kinds F_kinds.kp b_kinds .nil pass0)) (pe_call G_take (hr.mono (by decide)) (by rfl) m_take F_take.kp b_take .nil pass0 (pa_cons (pv 0) (pa_cons (pe_op op_add (pe_callB call_len (by rfl) T.len PySem.boot_len (pa_cons (pv 1) pa_nil)) pe_int) pa_nil))) (fun _ _ => rfl))) (pss_cons (ps_par (i := 3) (j := 4) (by rfl) nd rfl rfl (by decide) rfl rfl (pa_cons (pe_call G_take (hr.mono (by decide)) (by rfl) m_take F_take.kp b_take .nil pass0 (pa_cons (pv 0) (pa_cons (pe_op op_add (pe_callB call_len (by rfl) T.len PySem.boot_len (pa_cons (pv 2) pa_nil)) pe_int) pa_nil))) (pa_cons (pe_ix ix_str pe_str (pe_call G_take (hr.mono (by decide)) (by rfl) m_take F_take.kp b_take .nil pass0 (pa_cons (pv 0) (pa_cons pe_int pa_nil))) (fun _ _ => rfl)) pa_nil)) (by rfl)) (pss_cons (ps_set (i := 5) nd rfl (.inl rfl) (pe_lst (pa_cons (pv 2) (pa_cons (pe_op op_add_str (pe_op op_add_str (pe_slice sl_str (pv 2) po_none (po_some (pv 3))) (pv 4)) (pe_slice sl_str (pv 2) (po_some (pv 3)) po_none)) (pa_cons (pe_op op_add_str (pe_slice sl_str (pv 2) po_none (po_some (pv 3))) (pe_slice sl_str (pv 2) (po_some (pe_op op_add (pv 3) pe_int)) po_none)) (pa_cons (pe_op op_mulS (pv 2) pe_int) (pa_cons (pe_upper (pv 2)) (pa_cons pe_str pa_nil)))))))) (pss_cons (ps_set (i := 5) nd rfl (.inl rfl) (pe_op op_cat (pv 5) (pe_lst (pa_cons pe_int (pa_cons (pe_un un_neg pe_int) (pa_cons (pe_op op_add (pe_op op_pow pe_int pe_int) (pe_call G_take (hr.mono (by decide)) (by rfl) m_take F_take.kp b_take .nil pass0 (pa_cons (pv 0) (pa_cons pe_int pa_nil)))) (pa_cons (pe_un un_neg (pe_op op_pow pe_int pe_int)) (pa_cons pe_bl (pa_cons pe_bl (pa_cons pe_non pa_nil)))))))))) (pss_cons (ps_set (i := 5) nd rfl (.inl rfl) (pe_op op_cat (pv 5) (pe_lst (pa_cons (pe_lst (pa_cons (pv 2) pa_nil)) (pa_cons (pe_tup (pa_cons (pv 2) pa_nil)) (pa_cons (pe_disp (pps_cons (pv 2) pe_int pps_nil) (by rfl) (by rfl) (fun z => by cases z) (by decide)) (pa_cons (pe_lst pa_nil) pa_nil))))))) (pss_one (ps_ret (pe_ix ix_list (pv 5) (pe_call G_take (hr.mono (by decide)) (by rfl) m_take F_take.kp b_take .nil pass0 (pa_cons (pv 0) (pa_cons pe_int pa_nil))) (fun _ _ => rfl))))))))), ?_⟩
    -- label
    refine ⟨_, rfl, rfl, fun p1 n1 => ?_⟩
    have x1 : Ext H (upd H p1 (.lst kindsV)) := (Ext.refl H).new n1
    refine ⟨nl, p1, _, _, rfl, rfl, x1 _ _ hnl, upd_same, ?_, fun p2 n2 => ?_⟩
    · rw [List.length_map, y3]
      decide
    have x2 : Ext H (upd (upd H p1 (.lst kindsV)) p2 (.lst (ys.map V.str ++ kindsV))) := x1.new n2
    have nb2 : p2 ≠ b := ne_bag (hB.ext x1) n2
    have e2 : (upd (upd H p1 (.lst kindsV)) p2 (.lst (ys.map V.str ++ kindsV))) p2 = some (.lst ((ys ++ kindsS).map V.str)) := by rw [upd_same, List.map_append]; rfl
    generalize upd (upd H p1 (.lst kindsV)) p2 (.lst (ys.map V.str ++ kindsV)) = H2 at x2 e2
    refine ⟨_, rfl, _, rfl, _, _, rfl, .inl ⟨_, .inl (.inl (x2 _ _ hnl)), rfl⟩, _, _, rfl, rfl, b, l, _, rfl, hB.ext x2, by rw [List.length_map, y3]; decide, by rw [List.length_map, y3]; decide, fun r H3 r0 r1 B3 s3 => ?_⟩
    rw [List.length_map, y3] at r1
    obtain ⟨lab, lm, le⟩ := at_map (f := V.str) (xs := ys ++ kindsS) r0 (by rw [List.length_append, y3]; exact r1)
    have tl : Tx 8 lab := by
      rcases List.mem_append.mp lm with z | z
      · exact y8 _ z
      · exact Tx.all (xs := kindsS) (by decide +kernel) _ z
    refine ⟨p2, _, _, _, rfl, rfl, .inl (.inl (by rw [s3 _ nb2]; exact e2)), le, ?_⟩
    -- at, sign
    have x3 : ExtB b H H3 := x2.b.trans (.of s3)
    refine ⟨_, rfl, _, rfl, _, _, rfl, ⟨tl.line (by decide), rfl⟩, _, _, rfl, rfl, b, l, _, rfl, B3, by omega, by have := tl.ln; omega, fun at_ H4 a0 a1 B4 s4 => ?_⟩
    refine ⟨_, rfl, b, l, _, rfl, B4, by decide, by decide, fun sg H5 g0 g1 B5 s5 => ?_⟩
    have lz : (Str.ofString " _-!0Aa\n`{.").cps.toList.length = 11 := by decide +kernel
    have l8 : ∀ c ∈ (Str.ofString " _-!0Aa\n`{.").cps.toList, c < 128 := by decide +kernel
    obtain ⟨c, c1, c2⟩ : ∃ c, atI (Str.ofString " _-!0Aa\n`{.").cps.toList sg = some c ∧ c < 128 := by
      obtain ⟨n, rfl⟩ : ∃ n : Nat, sg = (n : Int) := ⟨sg.toNat, by omega⟩
      have hn : n < (Str.ofString " _-!0Aa\n`{.").cps.toList.length := by rw [lz]; omega
      exact ⟨_, atI_nat (List.getElem?_eq_getElem hn), l8 _ (List.getElem_mem hn)⟩
    refine ⟨_, _, c, rfl, rfl, by decide +kernel, c1, _, _, rfl, ?_⟩
    have ts : Tx 1 (⟨#[c]⟩ : Str) := tx_one c2
    have x5 : ExtB b H H5 := (x3.trans (.of s4)).trans (.of s5)
    have cu : ∀ lo hi, Tx 8 (cutS lab lo hi) := fun lo hi => tl.cut lo hi
    have ll : lab.length ≤ sizeLine := tl.line (by decide)
    have sz : ∀ {n m : Nat} {x y : Str}, Tx n x → Tx m y → n + m ≤ 100 → x.length + y.length ≤ sizeLine := fun {n m x y} u v h => Nat.le_trans (Nat.add_le_add u.ln v.ln) (Nat.le_trans h (by decide))
    -- the texts
    refine ⟨_, rfl, _, rfl, _, rfl, _, rfl, _, rfl, ll, _, rfl, _, _, rfl, rfl, sz (cu _ _) ts (by decide), _, rfl, _, rfl, _, rfl, _, rfl, ll, _, _, rfl, rfl, sz ((cu _ _).app ts) (cu _ _) (by decide), ?_⟩
    refine ⟨_, rfl, _, rfl, _, rfl, _, rfl, ll, _, rfl, _, rfl, _, _, rfl, rfl, _, rfl, _, rfl, ll, _, _, rfl, rfl, sz (cu _ _) (cu _ _) (by decide), ?_⟩
    refine ⟨_, rfl, _, _, rfl, rfl, Nat.le_trans tl.ln (by decide), by decide, by decide, ?_⟩
    refine ⟨_, rfl, ⟨_, rfl⟩, _, rfl, rfl, Nat.le_trans tl.ln (by decide), ?_⟩
    refine ⟨by show 6 ≤ sizeLine; decide, fun p6 n6 => ?_⟩
    have t1 : Tx 60 (cutS lab none (some at_) ++ (⟨#[c]⟩ : Str) ++ cutS lab (some at_) none) := (((cu _ _).app ts).app (cu _ _)).up (by decide)
    have t2 : Tx 60 (cutS lab none (some at_) ++ cutS lab (some (at_ + 1)) none) := ((cu _ _).app (cu _ _)).up (by decide)
    have t3 : Tx 60 (Txt.mul lab 2) := (tl.mul (k := 2) (by decide) (by decide)).up (by decide)
    have t4 : Tx 60 (Txt.upper lab) := tl.upper.up (by decide)
    have t5 : Tx 60 (Str.ofString "") := Tx.of (by decide +kernel)
    have t0 : Tx 60 lab := tl.up (by decide)
    generalize cutS lab none (some at_) ++ (⟨#[c]⟩ : Str) ++ cutS lab (some at_) none = z1 at t1
    generalize cutS lab none (some at_) ++ cutS lab (some (at_ + 1)) none = z2 at t2
    generalize Txt.mul lab 2 = z3 at t3
    generalize Txt.upper lab = z4 at t4
    have nb6 : p6 ≠ b := ne_bag B5 n6
    have B6 := B5.ext ((Ext.refl H5).new (o := .lst [.str lab, .str z1, .str z2, .str z3, .str z4, .str (Str.ofString "")]) n6)
    have x6 : ExtB b H _ := x5.new (o := .lst [.str lab, .str z1, .str z2, .str z3, .str z4, .str (Str.ofString "")]) n6
    have e6 : (upd H5 p6 (.lst [.str lab, .str z1, .str z2, .str z3, .str z4, .str (Str.ofString "")])) p6 = _ := upd_same
    generalize upd H5 p6 (.lst [.str lab, .str z1, .str z2, .str z3, .str z4, .str (Str.ofString "")]) = H6 at B6 x6 e6
    -- the numbers
    refine ⟨_, rfl, _, rfl, _, _, rfl, rfl, ⟨by decide, by decide, by decide⟩, _, rfl, b, l, 9, rfl, B6, by decide, by decide, fun r7 H7 r70 r71 B7 s7 => ?_⟩
    refine ⟨_, _, rfl, rfl, _, _, rfl, rfl, ⟨by decide, by decide, by decide⟩, _, rfl, by show 7 ≤ sizeLine; decide, fun p8 n8 => ?_⟩
    have e7 : H7 p6 = some (.lst [.str lab, .str z1, .str z2, .str z3, .str z4, .str (Str.ofString "")]) := by rw [s7 _ nb6]; exact e6
    have x7 : ExtB b H H7 := x6.trans (.of s7)
    have n68 : p6 ≠ p8 := ne_of_none e7 n8
    refine ⟨p6, p8, _, _, rfl, rfl, by rw [upd_ne n68]; exact e7, upd_same, by show 13 ≤ sizeLine; decide, fun p9 n9 => ?_⟩
    have x9 : Ext H7 _ := (((Ext.refl H7).new (o := .lst [.int 0, .int (-1), .int (10 ^ 60 + r7), .int (-(10 ^ 30)), .bl true, .bl false, .non]) n8).new (o := .lst [.str lab, .str z1, .str z2, .str z3, .str z4, .str (Str.ofString ""), .int 0, .int (-1), .int (10 ^ 60 + r7), .int (-(10 ^ 30)), .bl true, .bl false, .non]) n9)
    have B9 := B7.ext x9
    have nb9 : p9 ≠ b := ne_bag (B7.ext ((Ext.refl H7).new (o := .lst [.int 0, .int (-1), .int (10 ^ 60 + r7), .int (-(10 ^ 30)), .bl true, .bl false, .non]) n8)) n9
    have e9 : (upd (upd H7 p8 (.lst [.int 0, .int (-1), .int (10 ^ 60 + r7), .int (-(10 ^ 30)), .bl true, .bl false, .non])) p9 (.lst [.str lab, .str z1, .str z2, .str z3, .str z4, .str (Str.ofString ""), .int 0, .int (-1), .int (10 ^ 60 + r7), .int (-(10 ^ 30)), .bl true, .bl false, .non])) p9 = _ := upd_same
    show tSeq _ _ _ _ (upd (upd H7 p8 (.lst [.int 0, .int (-1), .int (10 ^ 60 + r7), .int (-(10 ^ 30)), .bl true, .bl false, .non])) p9 (.lst [.str lab, .str z1, .str z2, .str z3, .str z4, .str (Str.ofString ""), .int 0, .int (-1), .int (10 ^ 60 + r7), .int (-(10 ^ 30)), .bl true, .bl false, .non]))
    have x9' : ExtB b H _ := x7.trans x9.b
    generalize (upd (upd H7 p8 (.lst [.int 0, .int (-1), .int (10 ^ 60 + r7), .int (-(10 ^ 30)), .bl true, .bl false, .non])) p9 (.lst [.str lab, .str z1, .str z2, .str z3, .str z4, .str (Str.ofString ""), .int 0, .int (-1), .int (10 ^ 60 + r7), .int (-(10 ^ 30)), .bl true, .bl false, .non])) = H9 at B9 e9 x9'
    -- the lists, the tuple, the dict
    refine ⟨_, rfl, _, rfl, by show 1 ≤ sizeLine; decide, fun q1 m1 => ?_⟩
    refine ⟨_, rfl, by show 1 ≤ sizeLine; decide, fun q2 m2 => ?_⟩
    intro q3 m3
    refine ⟨_, rfl, upd_same, [(.inr lab, .int 1)], rfl, by show 1 ≤ 15; decide, ?_⟩
    rw [upd_upd]
    refine ⟨by show 0 ≤ sizeLine; decide, fun q4 m4 => ?_⟩
    refine ⟨by show 4 ≤ sizeLine; decide, fun q5 m5 => ?_⟩
    have y1 : Ext H9 (upd H9 q1 (.lst [.str lab])) := (Ext.refl H9).new m1
    have y2 : Ext (upd H9 q1 (.lst [.str lab])) (upd (upd H9 q1 (.lst [.str lab])) q2 (.tup [.str lab])) := (Ext.refl _).new m2
    have y3' : Ext (upd (upd H9 q1 (.lst [.str lab])) q2 (.tup [.str lab])) (upd (upd (upd H9 q1 (.lst [.str lab])) q2 (.tup [.str lab])) q3 (.dK [(.inr lab, .int 1)])) := (Ext.refl _).new m3
    have y4 : Ext (upd (upd (upd H9 q1 (.lst [.str lab])) q2 (.tup [.str lab])) q3 (.dK [(.inr lab, .int 1)])) (upd (upd (upd (upd H9 q1 (.lst [.str lab])) q2 (.tup [.str lab])) q3 (.dK [(.inr lab, .int 1)])) q4 (.lst [])) := (Ext.refl _).new m4
    have y5 : Ext (upd (upd (upd (upd H9 q1 (.lst [.str lab])) q2 (.tup [.str lab])) q3 (.dK [(.inr lab, .int 1)])) q4 (.lst [])) (upd (upd (upd (upd (upd H9 q1 (.lst [.str lab])) q2 (.tup [.str lab])) q3 (.dK [(.inr lab, .int 1)])) q4 (.lst [])) q5 (.lst [.ref q1, .ref q2, .ref q3, .ref q4])) := (Ext.refl _).new m5
    have f1 := y5 _ _ (y4 _ _ (y3' _ _ (y2 _ _ upd_same)))
    have f2 := y5 _ _ (y4 _ _ (y3' _ _ upd_same))
    have f3 := y5 _ _ (y4 _ _ upd_same)
    have f4 := y5 _ _ upd_same
    have f5 : (upd (upd (upd (upd (upd H9 q1 (.lst [.str lab])) q2 (.tup [.str lab])) q3 (.dK [(.inr lab, .int 1)])) q4 (.lst [])) q5 (.lst [.ref q1, .ref q2, .ref q3, .ref q4])) q5 = _ := upd_same
    have ya := (((y1.trans y2).trans y3').trans y4).trans y5
    have f9 := ya _ _ e9
    have Ba := B9.ext ya
    have xa := x9'.trans ya.b
    show rCat (.ref p9) (.ref q5) (upd (upd (upd (upd (upd H9 q1 (.lst [.str lab])) q2 (.tup [.str lab])) q3 (.dK [(.inr lab, .int 1)])) q4 (.lst [])) q5 (.lst [.ref q1, .ref q2, .ref q3, .ref q4])) _
    generalize (upd (upd (upd (upd (upd H9 q1 (.lst [.str lab])) q2 (.tup [.str lab])) q3 (.dK [(.inr lab, .int 1)])) q4 (.lst [])) q5 (.lst [.ref q1, .ref q2, .ref q3, .ref q4])) = Ha at f1 f2 f3 f4 f5 f9 Ba xa
    refine ⟨p9, q5, _, _, rfl, rfl, f9, f5, by show 17 ≤ sizeLine; decide, fun q6 m6 => ?_⟩
    have nb6' : q6 ≠ b := ne_bag Ba m6
    have yb : Ext Ha (upd Ha q6 (.lst ([.str lab, .str z1, .str z2, .str z3, .str z4, .str (Str.ofString ""), .int 0, .int (-1), .int (10 ^ 60 + r7), .int (-(10 ^ 30)), .bl true, .bl false, .non] ++ [.ref q1, .ref q2, .ref q3, .ref q4]))) := (Ext.refl Ha).new m6
    refine ⟨_, rfl, _, rfl, b, l, 17, rfl, Ba.ext yb, by decide, by decide, fun r Hb r0' r1' Bb sb => ?_⟩
    have xb : ExtB b Ha Hb := yb.b.trans (.of sb)
    have eb : Hb q6 = some (.lst ([.str lab, .str z1, .str z2, .str z3, .str z4, .str (Str.ofString ""), .int 0, .int (-1), .int (10 ^ 60 + r7), .int (-(10 ^ 30)), .bl true, .bl false, .non] ++ [.ref q1, .ref q2, .ref q3, .ref q4])) := by rw [sb _ nb6']; exact upd_same
    obtain ⟨v, vm, ve⟩ := at_map (f := id) (xs := [.str lab, .str z1, .str z2, .str z3, .str z4, .str (Str.ofString ""), .int 0, .int (-1), .int (10 ^ 60 + r7), .int (-(10 ^ 30)), .bl true, .bl false, .non] ++ [.ref q1, .ref q2, .ref q3, .ref q4]) r0' (by show r < 17; omega)
    rw [List.map_id] at ve
    refine ⟨q6, _, r, v, rfl, rfl, .inl (.inl eb), ve, ?_⟩
    have g1 : H q1 = none := x9'.back B9 m1
    have g2 : H q2 = none := x9'.back B9 (y1.back m2)
    have g3 : H q3 = none := x9'.back B9 ((y1.trans y2).back m3)
    have g4 : H q4 = none := x9'.back B9 (((y1.trans y2).trans y3').back m4)
    refine k v Hb Bb (xa.trans xb) ?_ ?_
    · refine ThingV.extS xb ?_ Ba
      simp only [List.mem_append, List.mem_cons, List.not_mem_nil, or_false] at vm
      rcases vm with (rfl | rfl | rfl | rfl | rfl | rfl | rfl | rfl | rfl | rfl | rfl | rfl | rfl) | rfl | rfl | rfl | rfl
      · exact .str _ t0
      · exact .str _ t1
      · exact .str _ t2
      · exact .str _ t3
      · exact .str _ t4
      · exact .str _ t5
      · exact .int _ (by decide)
      · exact .int _ (by decide)
      · refine .int _ ?_
        have h61 : (10 ^ 60 + r7).natAbs < 2 ^ 203 := by omega
        by_cases hz : (10 ^ 60 + r7).natAbs = 0
        · rw [hz]
          decide
        · exact Nat.lt_trans ((Nat.log2_lt hz).mpr h61) (by decide)
      · exact .int _ (by decide)
      · exact .bl _
      · exact .bl _
      · exact .non
      · exact .lst1 _ lab f1 t0
      · exact .tup1 _ lab f2 t0
      · exact .dct1 _ lab f3 t0
      · exact .lst0 _ f4
    · simp only [List.mem_append, List.mem_cons, List.not_mem_nil, or_false] at vm
      rcases vm with (rfl | rfl | rfl | rfl | rfl | rfl | rfl | rfl | rfl | rfl | rfl | rfl | rfl) | rfl | rfl | rfl | rfl
      all_goals first | (intro a h; cases h; assumption) | (intro a h; cases h)
end
end AL
namespace AL
open PySem PySem.Spec PyProof.Rows L2
abbrev s_law : Stmt := top 15
/-- two lists of truths that are the same -/
theorem bls_dd {K : PySem.W.Frag} {H : Hp} : ∀ bs : List Bool, DdA K H (bs.map V.bl) (bs.map PyData.bool)
  | [] => .nil
  | b :: bs => .cons (.bl b) (bls_dd bs)
theorem bls_dp {K : PySem.W.Frag} {H : Hp} : ∀ bs : List Bool, DpAll K H (bs.map V.bl) (bs.map PyData.bool)
  | [] => .nil
  | b :: bs => .cons (.bl b) (bls_dp bs)
theorem bls_flat : ∀ bs : List Bool, PyData.showableAll (bs.map PyData.bool) = true ∧ PyData.depthAll (bs.map PyData.bool) = 0 ∧ PyData.leavesShortAll 1950 (bs.map PyData.bool) = true ∧ PyData.weightAll (bs.map PyData.bool) = bs.length ∧ PyData.canLayAll0 (bs.map PyData.bool) = true
  | [] => ⟨rfl, rfl, rfl, rfl, rfl⟩
  | b :: bs => by
    obtain ⟨h1, h2, h3, h4, h5⟩ := bls_flat bs
    refine ⟨?_, ?_, ?_, ?_, ?_⟩
    · simp only [List.map_cons, PyData.showableAll, PyData.showable, h1, Bool.and_true]
    · simp only [List.map_cons, PyData.depthAll, PyData.depth, h2]
      rfl
    · simp only [List.map_cons, PyData.leavesShortAll, PyData.leavesShort, h3, Bool.and_true]
    · simp only [List.map_cons, PyData.weightAll, PyData.weight, h4, List.length_cons]
      omega
    · simp only [List.map_cons, PyData.canLayAll0, PyData.canLay0, h5, Bool.and_true]
theorem bls_alike {K : PySem.W.Frag} {H : Hp} {p q : Addr} (bs : List Bool) (hl : bs.length ≤ 100) (hp : H p = some (.lst (bs.map V.bl))) (hq : H q = some (.lst (bs.map V.bl))) 
    : Dd K H (.ref p) (.list (bs.map PyData.bool)) ∧ Dd K H (.ref q) (.list (bs.map PyData.bool)) ∧ EqOk K H (.ref p) (.ref q) ∧ RepOk (.list (bs.map PyData.bool)) := by
  obtain ⟨h1, h2, h3, h4, h5⟩ := bls_flat bs
  refine ⟨.lst (.inl (.inl hp)) (bls_dd bs), .lst (.inl (.inl hq)) (bls_dd bs), .inl ⟨.list (bs.map PyData.bool), .lst (.inl (.inl hp)) (bls_dp bs), .lst (.inl (.inl hq)) (bls_dp bs), ?_⟩, repOk_of ?_ ?_ ?_ ?_⟩
  · simp only [SeqAt.shaped, PyData.canLay0, PyData.depth, h5, h2]
    rfl
  · simp only [PyData.showable, h1]
  · simp only [PyData.depth, h2]
    decide
  · simp only [PyData.leavesShort, h3]
  · simp only [PyData.weight, h4]
    omega
theorem nd_idx {i : Nat} {x : Str} (h : kindsS[i]? = some x) : kindsS.idxOf x = i := by
  obtain ⟨hi, e⟩ := List.getElem?_eq_some_iff.mp h
  have hi' : i < 4 := hi
  subst e
  match i, hi' with
  | 0, _ => exact (by decide +kernel : List.idxOf ("fixed" : Str) kindsS = 0)
  | 1, _ => exact (by decide +kernel : List.idxOf ("stable" : Str) kindsS = 1)
  | 2, _ => exact (by decide +kernel : List.idxOf ("changing" : Str) kindsS = 2)
  | 3, _ => exact (by decide +kernel : List.idxOf ("effect" : Str) kindsS = 3)
def spLaw (K : PySem.W.Frag) : Sp := fun vs H Q _ => ∃ (a : Addr) (ns : List Int), vs = [.ref a] ∧ SqL K H a (ns.map V.int) ∧ ns.length ≤ 63 ∧ ∀ H', Q (.bl true) H'
theorem scLaw : FnScope ["_law_script", "_law_bag_here", "_law_names_here", "_law_things", "_law_thing_here", "_law_text", "_law_found", "_law_at", "_law_one", "_law_spot", "_law_other", "_law_k"] ["_law_script"] (defScope s_law) := ⟨rfl, rfl, rfl, by decide +kernel, rfl, by decide +kernel, by decide +kernel⟩
section
variable {P : Program} {w : World} {K : PySem.W.Frag} {mg : Str → Option Value} {base : Heap} {kd : Addr}
theorem ok_law {f f_bag f_take f_alike f_names f_kinds f_thing f_due f_is_integer f_is_name f_is_kind f_freer f_as_free : Addr} {fd fd_bag fd_take fd_alike fd_names fd_kinds fd_thing fd_due fd_is_integer fd_is_name fd_is_kind fd_freer fd_as_free : FuncData}
    (F : Fun K "law" "law" s_law f fd) (T : Blt mg) (TK : KTup K mg kd) (sm : SM base)
    (F_bag : Fun K "_law_bag" "_law_bag" sBag f_bag fd_bag) (b_bag : Binds K fd_bag ["_law_script"] []) (m_bag : mg "_law_bag" = some (.ref f_bag))
    (F_take : Fun K "_law_take" "_law_take" sTake f_take fd_take) (b_take : Binds K fd_take ["_law_bag_here", "_law_most"] []) (m_take : mg "_law_take" = some (.ref f_take))
    (F_alike : Fun K "_law_alike" "_law_alike" sAlike f_alike fd_alike) (b_alike : Binds K fd_alike ["_law_one", "_law_other"] []) (m_alike : mg "_law_alike" = some (.ref f_alike))
    (F_names : Fun K "_law_names" "_law_names" s_names f_names fd_names) (b_names : Binds K fd_names ["_law_bag_here", "_law_many"] []) (m_names : mg "_law_names" = some (.ref f_names))
    (F_kinds : Fun K "_law_kinds" "_law_kinds" sKinds f_kinds fd_kinds) (b_kinds : Binds K fd_kinds [] []) (m_kinds : mg "_law_kinds" = some (.ref f_kinds))
    (F_thing : Fun K "_law_thing" "_law_thing" s_thing f_thing fd_thing) (b_thing : Binds K fd_thing ["_law_bag_here", "_law_names_here"] []) (m_thing : mg "_law_thing" = some (.ref f_thing))
    (F_due : Fun K "_law_due" "_law_due" sDue f_due fd_due) (b_due : Binds K fd_due ["_law_thing_here"] []) (m_due : mg "_law_due" = some (.ref f_due))
    (F_is_integer : Fun K "is_integer" "is_integer" sInteger f_is_integer fd_is_integer) (b_is_integer : Binds K fd_is_integer ["thing"] []) (m_is_integer : mg "is_integer" = some (.ref f_is_integer))
    (F_is_name : Fun K "is_name" "is_name" sName f_is_name fd_is_name) (b_is_name : Binds K fd_is_name ["thing"] []) (m_is_name : mg "is_name" = some (.ref f_is_name))
    (F_is_kind : Fun K "is_kind" "is_kind" sKind2 f_is_kind fd_is_kind) (b_is_kind : Binds K fd_is_kind ["thing"] []) (m_is_kind : mg "is_kind" = some (.ref f_is_kind))
    (F_freer : Fun K "freer" "freer" sFreer f_freer fd_freer) (b_freer : Binds K fd_freer ["one", "other"] []) (m_freer : mg "freer" = some (.ref f_freer))
    (F_as_free : Fun K "as_free" "as_free" sAsFree f_as_free fd_as_free) (b_as_free : Binds K fd_as_free ["one", "other"] []) (m_as_free : mg "as_free" = some (.ref f_as_free)) :
    FnG P w K mg base 4 f fd ["_law_script"] (spLaw K) := by
  have G_bag : FnOk P w K mg base CX0 1 f_bag fd_bag ["_law_script"] (spBag K) := ok_bag F_bag T
  have G_names : FnOk P w K mg base CX0 2 f_names fd_names ["_law_bag_here", "_law_many"] spNames := ok_names F_names T F_take b_take m_take
  have G_thing : FnOk P w K mg base CX0 2 f_thing fd_thing ["_law_bag_here", "_law_names_here"] spThing := ok_thing F_thing T F_take b_take m_take F_kinds b_kinds m_kinds
  have G_kinds : FnOk P w K mg base CX0 1 f_kinds fd_kinds [] spKinds := ok_kinds F_kinds
  have G_due : FnOk P w K mg base CX0 2 f_due fd_due ["_law_thing_here"] spDue := ok_due F_due T F_kinds b_kinds m_kinds
  have G_is_integer : FnOk P w K mg base CX0 1 f_is_integer fd_is_integer ["thing"] (spP isI) := ok_integer F_is_integer T
  have G_is_name : FnOk P w K mg base CX0 1 f_is_name fd_is_name ["thing"] (spP isN) := ok_name F_is_name T
  have G_is_kind : FnOk P w K mg base CX0 1 f_is_kind fd_is_kind ["thing"] (spP isK) := ok_kind F_is_kind T TK
  have G_freer : FnOk P w K mg base CX0 1 f_freer fd_freer ["one", "other"] (spF fun i j => decide (i > j)) := ok_freer F_freer TK
  have G_as_free : FnOk P w K mg base CX0 1 f_as_free fd_as_free ["one", "other"] (spF fun i j => decide (i ≥ j)) := ok_asfree F_as_free TK
  have G_alike : FnG P w K mg base 1 f_alike fd_alike ["_law_one", "_law_other"] (spAlike K) := ok_alike F_alike T sm
  refine okG F scLaw (fun vs H Q E h => ?_) (fun cdv A outer s H vs Q E hg hr h => ?_)
  · obtain ⟨a, ns, rfl, _⟩ := h
    rfl
  · obtain ⟨a, ns, rfl, hS, hl, k⟩ := h
    have nd := scLaw.nd
    -- return alike(KINDS, tuple(kinds()))
    obtain ⟨t5, h5, rd5⟩ : ∃ t5, PSs (cxOf CX0 P w K mg base ["_law_script", "_law_bag_here", "_law_names_here", "_law_things", "_law_thing_here", "_law_text", "_law_found", "_law_at", "_law_one", "_law_spot", "_law_other", "_law_k"] "law" (defScope s_law) f cdv A outer s H E).nox ((defBody s_law).drop 5) t5 ∧ ∀ σ H1, t5 { nx := fun _ H' => Q .non H', rt := Q } σ H1 := by
      refine ⟨_, (pss_one (ps_ret (callG hg G_alike (hr.mono (by decide)) (by rfl) m_alike F_alike.kp b_alike (pa_cons (pe_glob rfl TK.mgK (v := .ref kd) rfl) (pa_cons (pe_callTy call_tuple_of (by rfl) T.tuple (by decide +kernel) (pa_cons (pe_call0 G_kinds (hr.mono (by decide)) (by rfl) m_kinds F_kinds.kp b_kinds .nil pass0) pa_nil)) pa_nil))))), ?_⟩
      intro σ H1
      refine ⟨rfl, fun p np => ⟨p, _, rfl, .inl ⟨.inl (.inl upd_same), fun l hl => ?_⟩⟩⟩
      have sl : SqT K (upd (upd H1 p (.lst kindsV)) l (.tup kindsV)) l kindsV := .inl (.inl upd_same)
      refine ⟨.ref kd, .ref l, .tuple (kindsS.map PyData.str), rfl, .tup (TK.sq _) ?_, .tup sl ?_, .inl ⟨.tuple (kindsS.map PyData.str), .tup (TK.sq _) ?_, .tup sl ?_, by decide +kernel⟩, repOk_of (by decide +kernel) (by decide +kernel) (by decide +kernel) (by decide +kernel), k _⟩
      · exact .cons (.str _) (.cons (.str _) (.cons (.str _) (.cons (.str _) .nil)))
      · exact .cons (.str _) (.cons (.str _) (.cons (.str _) (.cons (.str _) .nil)))
      · exact .cons (.str _) (.cons (.str _) (.cons (.str _) (.cons (.str _) .nil)))
      · exact .cons (.str _) (.cons (.str _) (.cons (.str _) (.cons (.str _) .nil)))
    -- for at, one in enumerate(kinds()): for spot, other in enumerate(kinds()): ..
    obtain ⟨t4, h4, rd4⟩ : ∃ t4, PSs (cxOf CX0 P w K mg base ["_law_script", "_law_bag_here", "_law_names_here", "_law_things", "_law_thing_here", "_law_text", "_law_found", "_law_at", "_law_one", "_law_spot", "_law_other", "_law_k"] "law" (defScope s_law) f cdv A outer s H E).nox ((defBody s_law).drop 4) t4 ∧
        ∀ (x0 x1 x2 x3 x4 x5 x6 x7 x8 x9 x10 x11 : Option V) H1, t4 { nx := fun _ H' => Q .non H', rt := Q } [x0, x1, x2, x3, x4, x5, x6, x7, x8, x9, x10, x11] H1 := by
      refine ⟨_, (pss_cons (ps_for PassesOwn.never rfl (pi_enum (by rfl) T.enumerate (pa_cons (pe_call0 G_kinds (hr.mono (by decide)) (by rfl) m_kinds F_kinds.kp b_kinds .nil pass0) pa_nil)) (pg_tup (by rfl) (pgs_cons (pg_name (i := 7) nd rfl (Or.inl rfl)) (pgs_cons (pg_name (i := 8) nd rfl (Or.inl rfl)) pgs_nil))) (pss_one (ps_for PassesOwn.never rfl (pi_enum (by rfl) T.enumerate (pa_cons (pe_call0 G_kinds (hr.mono (by decide)) (by rfl) m_kinds F_kinds.kp b_kinds .nil pass0) pa_nil)) (pg_tup (by rfl) (pgs_cons (pg_name (i := 9) nd rfl (Or.inl rfl)) (pgs_cons (pg_name (i := 10) nd rfl (Or.inl rfl)) pgs_nil))) (pss_one (ps_if (pt_not (pt_val (callG hg G_alike (hr.mono (by decide)) (by rfl) m_alike F_alike.kp b_alike (pa_cons (pe_lst (pa_cons (pe_call G_freer (hr.mono (by decide)) (by rfl) m_freer F_freer.kp b_freer .nil pass0 (pa_cons (pv 8) (pa_cons (pv 10) pa_nil))) (pa_cons (pe_call G_as_free (hr.mono (by decide)) (by rfl) m_as_free F_as_free.kp b_as_free .nil pass0 (pa_cons (pv 8) (pa_cons (pv 10) pa_nil))) pa_nil))) (pa_cons (pe_lst (pa_cons (pe_cmpR op_gt (pv 7) (pv 9) (nomark _)) (pa_cons (pe_cmpR op_ge (pv 7) (pv 9) (nomark _)) pa_nil))) pa_nil))))) (pss_one (ps_ret pe_bl)) pss_nil))))) h5), ?_⟩
      intro x0 x1 x2 x3 x4 x5 x6 x7 x8 x9 x10 x11 H1
      refine ⟨rfl, fun p np => ⟨p, _, rfl, .inl (.inl upd_same), ?_⟩⟩
      refine for_it walk_enum (fun i σ H2 => (∃ x7 x8 x9 x10, σ = [x0, x1, x2, x3, x4, x5, x6, x7, x8, x9, x10, x11]) ∧ H2 p = some (.lst kindsV)) ⟨⟨_, _, _, _, rfl⟩, upd_same⟩ (fun _ _ _ _ h => .inl (.inl h.2)) ?_ (fun σ H2 _ => rd5 σ H2)
      rintro i y σ H2 H3 hi ⟨⟨y7, y8, y9, y10, rfl⟩, hp⟩ ⟨T1, u1, u2, rfl, nT, rfl, e1, e2⟩
      cases e1
      obtain ⟨one, ho, rfl⟩ : ∃ one, kindsS[i]? = some one ∧ u2 = .str one := by
        change (kindsS.map V.str)[i]? = some u2 at e2
        rw [List.getElem?_map] at e2
        obtain ⟨z, h1, h2⟩ := Option.map_eq_some_iff.mp e2
        exact ⟨z, h1, h2.symm⟩
      refine ⟨T1, _, rfl, .inl (.inl upd_same), rfl, _, _, rfl, _, _, rfl, rfl, ?_⟩
      have hp3 := ((Ext.refl H2).new (o := .tup [.int (i : Nat), .str one]) nT) _ _ hp
      refine ⟨rfl, fun q nq => ⟨q, _, rfl, .inl (.inl upd_same), ?_⟩⟩
      have hp4 := ((Ext.refl _).new (o := .lst kindsV) nq) _ _ hp3
      refine for_it walk_enum (fun j σ H4 => (∃ x9 x10, σ = [x0, x1, x2, x3, x4, x5, x6, some (.int (i : Nat)), some (.str one), x9, x10, x11]) ∧ H4 p = some (.lst kindsV) ∧ H4 q = some (.lst kindsV)) ⟨⟨_, _, rfl⟩, hp4, upd_same⟩ (fun _ _ _ _ h => .inl (.inl h.2.2)) ?_ (fun σ H4 h => ?_)
      · rintro j y σ H4 H5 hj ⟨⟨z9, z10, rfl⟩, hp5, hq5⟩ ⟨T2, v1, v2, rfl, nT2, rfl, e3, e4⟩
        cases e3
        obtain ⟨oth, hoth, rfl⟩ : ∃ oth, kindsS[j]? = some oth ∧ v2 = .str oth := by
          change (kindsS.map V.str)[j]? = some v2 at e4
          rw [List.getElem?_map] at e4
          obtain ⟨z, h1, h2⟩ := Option.map_eq_some_iff.mp e4
          exact ⟨z, h1, h2.symm⟩
        refine ⟨T2, _, rfl, .inl (.inl upd_same), rfl, _, _, rfl, _, _, rfl, rfl, ?_⟩
        have ext1 := (Ext.refl H4).new (o := .tup [.int (j : Nat), .str oth]) nT2
        have mo := List.mem_of_getElem? ho
        have mt := List.mem_of_getElem? hoth
        have i1 : kindsS.idxOf one = i := nd_idx ho
        have i2 : kindsS.idxOf oth = j := nd_idx hoth
        refine ⟨_, rfl, _, rfl, one, oth, rfl, mo, mt, _, rfl, _, rfl, one, oth, rfl, mo, mt, by show 2 ≤ sizeLine; decide, fun l1 n1 => ?_⟩
        refine ⟨_, rfl, _, rfl, _, _, rfl, rfl, _, rfl, _, rfl, _, _, rfl, rfl, by show 2 ≤ sizeLine; decide, fun l2 n2 => ?_⟩
        rw [i1, i2] at n2 ⊢
        have n12 : l1 ≠ l2 := ne_of_none upd_same n2
        have ext2 := (ext1.new (o := .lst [.bl (decide (i > j)), .bl (decide (i ≥ j))]) n1)
        have ext3 := ext2.new (o := .lst [.bl (decide ((j : Int) < (i : Int))), .bl (decide ((j : Int) ≤ (i : Int)))]) n2
        have c1 : decide ((j : Int) < (i : Int)) = decide (i > j) := by simp
        have c2 : decide ((j : Int) ≤ (i : Int)) = decide (i ≥ j) := by simp
        obtain ⟨k1, k2, k3, k4⟩ := bls_alike (K := K) (H := upd (upd (upd H4 T2 (.tup [.int (j : Nat), .str oth])) l1 (.lst [.bl (decide (i > j)), .bl (decide (i ≥ j))])) l2 (.lst [.bl (decide ((j : Int) < (i : Int))), .bl (decide ((j : Int) ≤ (i : Int)))])) (p := l1) (q := l2) [decide (i > j), decide (i ≥ j)] (by show 2 ≤ 100; decide) (by rw [upd_ne n12]; exact upd_same) (by
          rw [upd_same, c1, c2]
          rfl)
        refine ⟨.ref l1, .ref l2, _, rfl, k1, k2, k3, k4, ?_⟩
        refine ⟨_, rfl, iteF ⟨⟨_, _, rfl⟩, ext3 _ _ hp5, ext3 _ _ hq5⟩⟩
      · obtain ⟨⟨x9, x10, rfl⟩, h1, _⟩ := h
        exact ⟨⟨_, _, _, _, rfl⟩, h1⟩
    -- for thing in things + things[::-1]
    obtain ⟨t3, h3, rd3⟩ : ∃ t3, PSs (cxOf CX0 P w K mg base ["_law_script", "_law_bag_here", "_law_names_here", "_law_things", "_law_thing_here", "_law_text", "_law_found", "_law_at", "_law_one", "_law_spot", "_law_other", "_law_k"] "law" (defScope s_law) f cdv A outer s H E).nox ((defBody s_law).drop 3) t3 ∧
        ∀ (x0 x1 x2 x11 : Option V) (D : Addr) (vs : List V) H1, H1 D = some (.lst vs) → vs.length ≤ 100 → (∀ v ∈ vs, ThingV H1 v) → t3 { nx := fun _ H' => Q .non H', rt := Q } [x0, x1, x2, some (.ref D), none, none, none, none, none, none, none, x11] H1 := by
      refine ⟨_, (pss_cons (ps_for PassesOwn.never rfl (pi_list (pe_op op_cat (pv 3) (pe_revL (pv 3)))) (pg_name (i := 4) nd rfl (Or.inl rfl)) (pss_cons (ps_set (i := 5) nd rfl (.inl rfl) (pe_callB (call_rep hg hr.units sm) (by rfl) T.repr (by decide +kernel) (pa_cons (pv 4) pa_nil))) (pss_cons (ps_set (i := 6) nd rfl (.inl rfl) (pe_lst (pa_cons (pe_call G_is_integer (hr.mono (by decide)) (by rfl) m_is_integer F_is_integer.kp b_is_integer .nil pass0 (pa_cons (pv 4) pa_nil)) (pa_cons (pe_call G_is_name (hr.mono (by decide)) (by rfl) m_is_name F_is_name.kp b_is_name .nil pass0 (pa_cons (pv 4) pa_nil)) (pa_cons (pe_call G_is_kind (hr.mono (by decide)) (by rfl) m_is_kind F_is_kind.kp b_is_kind .nil pass0 (pa_cons (pv 4) pa_nil)) pa_nil))))) (pss_one (ps_if (PW.pt (pw_or (pt_not (pt_val (callG hg G_alike (hr.mono (by decide)) (by rfl) m_alike F_alike.kp b_alike (pa_cons (pv 6) (pa_cons (pe_call G_due (hr.mono (by decide)) (by rfl) m_due F_due.kp b_due .nil pass0 (pa_cons (pv 4) pa_nil)) pa_nil))))) (pw_or1 (pt_cmpR op_ne (pe_callB (call_rep hg hr.units sm) (by rfl) T.repr (by decide +kernel) (pa_cons (pv 4) pa_nil)) (pv 5) (nomark _))))) (pss_one (ps_ret pe_bl)) pss_nil))))) h4), ?_⟩
      intro x0 x1 x2 x11 D vs H1 hD vl hv
      refine ⟨_, rfl, _, rfl, D, vs, rfl, .inl (.inl hD), fun q nq => ?_⟩
      have eq1 := (Ext.refl H1).new (o := .lst vs.reverse) nq
      have nDq : D ≠ q := ne_of_none hD nq
      refine ⟨D, q, vs, vs.reverse, rfl, rfl, eq1 _ _ hD, upd_same, ?_, fun r nr => ⟨r, rfl, ⟨_, .inl (.inl upd_same)⟩, ?_⟩⟩
      · rw [List.length_reverse]
        exact Nat.le_trans (show _ ≤ 200 by omega) (by decide)
      have er := eq1.new (o := .lst (vs ++ vs.reverse)) nr
      have hr1 : (upd (upd H1 q (.lst vs.reverse)) r (.lst (vs ++ vs.reverse))) r = some (.lst (vs ++ vs.reverse)) := upd_same
      generalize (upd (upd H1 q (.lst vs.reverse)) r (.lst (vs ++ vs.reverse))) = H2 at er hr1
      refine for_list (K := K) (a := r) (xs := vs ++ vs.reverse) (fun i σ H3 => (∃ x4 x5 x6, σ = [x0, x1, x2, some (.ref D), x4, x5, x6, none, none, none, none, x11]) ∧ Ext H2 H3) ⟨⟨_, _, _, rfl⟩, Ext.refl _⟩ (fun i σ H3 _ h => .inl (.inl (h.2 _ _ hr1))) ?_ ?_
      · rintro i v σ H3 hi ⟨⟨x4, x5, x6, rfl⟩, e3⟩
        have hv3 : ThingV H3 v := by
          have hm := List.mem_of_getElem? hi
          have hm' : v ∈ vs := by
            rcases List.mem_append.mp hm with z | z
            · exact z
            · exact List.mem_reverse.mp z
          exact ((hv v hm').ext er).ext e3
        obtain ⟨d, dd, dk⟩ := hv3.data (K := K)
        refine ⟨_, rfl, v, d, rfl, dd, dk.1, dk.2.1, dk.2.2, ?_⟩
        refine ⟨_, rfl, v, rfl, hv3, fun H4 e4 => ?_⟩
        refine ⟨_, rfl, v, rfl, hv3.ext e4, fun H5 e5 => ?_⟩
        refine ⟨_, rfl, v, rfl, (hv3.ext e4).ext e5, fun H6 e6 => ?_⟩
        refine ⟨by show 3 ≤ sizeLine; decide, fun l1 n1 => ?_⟩
        have a6 := (e4.trans e5).trans e6
        have a7 := a6.new (o := .lst [.bl (isI v), .bl (isN v), .bl (isK v)]) n1
        have b7 : (upd H6 l1 (.lst [.bl (isI v), .bl (isN v), .bl (isK v)])) l1 = _ := upd_same
        refine ⟨_, rfl, _, rfl, v, rfl, hv3.ext a7, fun l2 H8 n2 e8 h8 => ?_⟩
        have a8 := a7.trans e8
        obtain ⟨k1, k2, k3, k4⟩ := bls_alike (K := K) (p := l1) (q := l2) [isI v, isN v, isK v] (by show 3 ≤ 100; decide) (e8 _ _ b7) h8
        refine ⟨.ref l1, .ref l2, _, rfl, k1, k2, k3, k4, ?_⟩
        refine ⟨_, rfl, iteF ?_⟩
        refine ⟨_, rfl, v, d, rfl, dd.ext a8, dk.1, dk.2.1, dk.2.2, _, rfl, rfl, _, rfl, ?_⟩
        refine iteNS rfl ?_
        exact ⟨⟨_, _, _, rfl⟩, e3.trans a8⟩
      · rintro σ H3 ⟨⟨x4, x5, x6, rfl⟩, e3⟩
        exact rd4 _ _ _ _ _ _ _ _ _ _ _ _ _
    refine ⟨_, (pss_cons (ps_set (i := 1) nd rfl (.inr rfl) (pe_call G_bag (hr.mono (by decide)) (by rfl) m_bag F_bag.kp b_bag .nil pass0 (pa_cons (pv 0) pa_nil))) (pss_cons (ps_set (i := 2) nd rfl (.inr rfl) (pe_call G_names (hr.mono (by decide)) (by rfl) m_names F_names.kp b_names .nil pass0 (pa_cons (pv 1) (pa_cons pe_int pa_nil)))) (pss_cons (ps_setLc (i := 3) (own := [("_law_k", 11)]) (g := gName 11) (tt := tYes) rfl nd rfl rfl (sw_true rfl rfl rfl (by decide +kernel)) (pi_range1 rfl T.range (pa_cons pe_int pa_nil)) (blkOk_by (N := ["_law_script", "_law_bag_here", "_law_names_here", "_law_things", "_law_thing_here", "_law_text", "_law_found", "_law_at", "_law_one", "_law_spot", "_law_other", "_law_k"]) (sc := defScope s_law) (by decide +kernel)) (fun _ _ _ _ _ => (pg_name (i := 11) nd rfl (Or.inl rfl))) (fun _ _ _ _ _ => pts_nil) (fun _ _ _ _ _ => (pe_call G_thing (hr.mono (by decide)) (by rfl) m_thing F_thing.kp b_thing .nil pass0 (pa_cons (pv 1) (pa_cons (pv 2) pa_nil))))) h3))), ?_⟩
    refine ⟨_, rfl, a, ns, rfl, hS, hl, fun b l H1 nb nl B1 keep => ?_⟩
    refine ⟨_, rfl, b, l, 3, rfl, B1, by decide, fun p ys H2 np B2 e2 hp yl y8 => ?_⟩
    have npb : p ≠ b := ne_bag B1 np
    refine ⟨24, rfl, by decide, by decide, fun D nD => ?_⟩
    have nDb : D ≠ b := ne_bag B2 nD
    have nDl : D ≠ l := ne_bagl B2 nD
    have npD : p ≠ D := ne_of_none hp nD
    refine lc_range (lo := 0) (n := (24 : Int).toNat) (fun i H3 => ∃ vs : List V, H3 D = some (.lst vs) ∧ vs.length = i ∧ BagS H3 b l ∧ H3 p = some (.lst (ys.map V.str)) ∧ (∀ v ∈ vs, ThingV H3 v) ∧ ∀ v ∈ vs, v ≠ .ref D) ?_ ?_ ?_
    · have e3 := (Ext.refl H2).new (o := .lst []) nD
      exact ⟨[], upd_same, rfl, B2.ext e3, e3 _ _ hp, by simp, by simp⟩
    · rintro i H3 hi ⟨vs, g1, g2, g3, g4, g5, g6⟩
      refine ⟨rfl, _, rfl, _, rfl, b, l, p, ys, rfl, g3, g4, yl, y8, fun v H4 B4 e4 tv fv => ?_⟩
      have hD4 := e4 D _ nDb g1
      refine ⟨vs, hD4, ?_, vs ++ [v], upd_same, ?_, ?_, ?_, ?_, ?_⟩
      · exact small1000 (by omega)
      · rw [List.length_append, g2]
        rfl
      · exact B4.upd nDb nDl
      · rw [upd_ne npD]
        exact e4 _ _ npb g4
      · intro u hu
        rcases List.mem_append.mp hu with z | z
        · exact ((g5 u z).extS e4 g3).upd (g6 u z)
        · rw [List.mem_singleton.mp z]
          refine tv.upd fun e => ?_
          rw [fv D e] at g1
          cases g1
      · intro u hu
        rcases List.mem_append.mp hu with z | z
        · exact g6 u z
        · rw [List.mem_singleton.mp z]
          intro e
          rw [fv D e] at g1
          cases g1
    · rintro H3 ⟨vs, g1, g2, g3, g4, g5, g6⟩
      exact rd3 _ _ _ _ D vs H3 g1 (by omega) g5
end
end AL
namespace AL
open PySem PySem.Spec PyProof.Rows L2
theorem all_mk {l : PySem.W.OpenLaw} {w : World} {K : PySem.W.Frag} {h : Heap} {mg : Str → Option Value} {fa : Addr} (X : K.In h) (G : h.Ns mainGlobals mg) (hfa : mg "law" = some (.ref fa))
    {f_bag f_take f_alike f_names f_kinds f_thing f_due f_is_integer f_is_name f_is_kind f_freer f_as_free f_law : Addr}
    {od_bag an_bag : Option Addr} {sl_bag : Array (Option Value)} {oc_bag kV_bag dc_bag pm_bag cd_bag ct_bag : Value}
    {od_take an_take : Option Addr} {sl_take : Array (Option Value)} {oc_take kV_take dc_take pm_take cd_take ct_take : Value}
    {od_alike an_alike : Option Addr} {sl_alike : Array (Option Value)} {oc_alike kV_alike dc_alike pm_alike cd_alike ct_alike : Value}
    {od_names an_names : Option Addr} {sl_names : Array (Option Value)} {oc_names kV_names dc_names pm_names cd_names ct_names : Value}
    {od_kinds an_kinds : Option Addr} {sl_kinds : Array (Option Value)} {oc_kinds kV_kinds dc_kinds pm_kinds cd_kinds ct_kinds : Value}
    {od_thing an_thing : Option Addr} {sl_thing : Array (Option Value)} {oc_thing kV_thing dc_thing pm_thing cd_thing ct_thing : Value}
    {od_due an_due : Option Addr} {sl_due : Array (Option Value)} {oc_due kV_due dc_due pm_due cd_due ct_due : Value}
    {od_is_integer an_is_integer : Option Addr} {sl_is_integer : Array (Option Value)} {oc_is_integer kV_is_integer dc_is_integer pm_is_integer cd_is_integer ct_is_integer : Value}
    {od_is_name an_is_name : Option Addr} {sl_is_name : Array (Option Value)} {oc_is_name kV_is_name dc_is_name pm_is_name cd_is_name ct_is_name : Value}
    {od_is_kind an_is_kind : Option Addr} {sl_is_kind : Array (Option Value)} {oc_is_kind kV_is_kind dc_is_kind pm_is_kind cd_is_kind ct_is_kind : Value}
    {od_freer an_freer : Option Addr} {sl_freer : Array (Option Value)} {oc_freer kV_freer dc_freer pm_freer cd_freer ct_freer : Value}
    {od_as_free an_as_free : Option Addr} {sl_as_free : Array (Option Value)} {oc_as_free kV_as_free dc_as_free pm_as_free cd_as_free ct_as_free : Value}
    {od_law an_law : Option Addr} {sl_law : Array (Option Value)} {oc_law kV_law dc_law pm_law cd_law ct_law : Value}
    (a_bag : PySem.W.nsIn K mainGlobals "_law_bag" = some (some (.ref f_bag)))
    (l_bag : K.lookup f_bag = some ⟨oc_bag, od_bag, .func (PySem.W.fnOf "_law_bag" "_law_bag" (defArgs sBag) (defBody sBag) (defScope sBag) .none kV_bag dc_bag pm_bag an_bag cd_bag ct_bag), sl_bag⟩)
    (c_bag : PySem.W.codeIn K cd_bag "_law_bag" = true) (k_bag : PySem.W.keepIn K (.ref f_bag) = true)
    (a_take : PySem.W.nsIn K mainGlobals "_law_take" = some (some (.ref f_take)))
    (l_take : K.lookup f_take = some ⟨oc_take, od_take, .func (PySem.W.fnOf "_law_take" "_law_take" (defArgs sTake) (defBody sTake) (defScope sTake) .none kV_take dc_take pm_take an_take cd_take ct_take), sl_take⟩)
    (c_take : PySem.W.codeIn K cd_take "_law_take" = true) (k_take : PySem.W.keepIn K (.ref f_take) = true)
    (a_alike : PySem.W.nsIn K mainGlobals "_law_alike" = some (some (.ref f_alike)))
    (l_alike : K.lookup f_alike = some ⟨oc_alike, od_alike, .func (PySem.W.fnOf "_law_alike" "_law_alike" (defArgs sAlike) (defBody sAlike) (defScope sAlike) .none kV_alike dc_alike pm_alike an_alike cd_alike ct_alike), sl_alike⟩)
    (c_alike : PySem.W.codeIn K cd_alike "_law_alike" = true) (k_alike : PySem.W.keepIn K (.ref f_alike) = true)
    (a_names : PySem.W.nsIn K mainGlobals "_law_names" = some (some (.ref f_names)))
    (l_names : K.lookup f_names = some ⟨oc_names, od_names, .func (PySem.W.fnOf "_law_names" "_law_names" (defArgs s_names) (defBody s_names) (defScope s_names) .none kV_names dc_names pm_names an_names cd_names ct_names), sl_names⟩)
    (c_names : PySem.W.codeIn K cd_names "_law_names" = true) (k_names : PySem.W.keepIn K (.ref f_names) = true)
    (a_kinds : PySem.W.nsIn K mainGlobals "_law_kinds" = some (some (.ref f_kinds)))
    (l_kinds : K.lookup f_kinds = some ⟨oc_kinds, od_kinds, .func (PySem.W.fnOf "_law_kinds" "_law_kinds" (defArgs sKinds) (defBody sKinds) (defScope sKinds) .none kV_kinds dc_kinds pm_kinds an_kinds cd_kinds ct_kinds), sl_kinds⟩)
    (c_kinds : PySem.W.codeIn K cd_kinds "_law_kinds" = true) (k_kinds : PySem.W.keepIn K (.ref f_kinds) = true)
    (a_thing : PySem.W.nsIn K mainGlobals "_law_thing" = some (some (.ref f_thing)))
    (l_thing : K.lookup f_thing = some ⟨oc_thing, od_thing, .func (PySem.W.fnOf "_law_thing" "_law_thing" (defArgs s_thing) (defBody s_thing) (defScope s_thing) .none kV_thing dc_thing pm_thing an_thing cd_thing ct_thing), sl_thing⟩)
    (c_thing : PySem.W.codeIn K cd_thing "_law_thing" = true) (k_thing : PySem.W.keepIn K (.ref f_thing) = true)
    (a_due : PySem.W.nsIn K mainGlobals "_law_due" = some (some (.ref f_due)))
    (l_due : K.lookup f_due = some ⟨oc_due, od_due, .func (PySem.W.fnOf "_law_due" "_law_due" (defArgs sDue) (defBody sDue) (defScope sDue) .none kV_due dc_due pm_due an_due cd_due ct_due), sl_due⟩)
    (c_due : PySem.W.codeIn K cd_due "_law_due" = true) (k_due : PySem.W.keepIn K (.ref f_due) = true)
    (a_is_integer : PySem.W.nsIn K mainGlobals "is_integer" = some (some (.ref f_is_integer)))
    (l_is_integer : K.lookup f_is_integer = some ⟨oc_is_integer, od_is_integer, .func (PySem.W.fnOf "is_integer" "is_integer" (defArgs sInteger) (defBody sInteger) (defScope sInteger) .none kV_is_integer dc_is_integer pm_is_integer an_is_integer cd_is_integer ct_is_integer), sl_is_integer⟩)
    (c_is_integer : PySem.W.codeIn K cd_is_integer "is_integer" = true) (k_is_integer : PySem.W.keepIn K (.ref f_is_integer) = true)
    (a_is_name : PySem.W.nsIn K mainGlobals "is_name" = some (some (.ref f_is_name)))
    (l_is_name : K.lookup f_is_name = some ⟨oc_is_name, od_is_name, .func (PySem.W.fnOf "is_name" "is_name" (defArgs sName) (defBody sName) (defScope sName) .none kV_is_name dc_is_name pm_is_name an_is_name cd_is_name ct_is_name), sl_is_name⟩)
    (c_is_name : PySem.W.codeIn K cd_is_name "is_name" = true) (k_is_name : PySem.W.keepIn K (.ref f_is_name) = true)
    (a_is_kind : PySem.W.nsIn K mainGlobals "is_kind" = some (some (.ref f_is_kind)))
    (l_is_kind : K.lookup f_is_kind = some ⟨oc_is_kind, od_is_kind, .func (PySem.W.fnOf "is_kind" "is_kind" (defArgs sKind2) (defBody sKind2) (defScope sKind2) .none kV_is_kind dc_is_kind pm_is_kind an_is_kind cd_is_kind ct_is_kind), sl_is_kind⟩)
    (c_is_kind : PySem.W.codeIn K cd_is_kind "is_kind" = true) (k_is_kind : PySem.W.keepIn K (.ref f_is_kind) = true)
    (a_freer : PySem.W.nsIn K mainGlobals "freer" = some (some (.ref f_freer)))
    (l_freer : K.lookup f_freer = some ⟨oc_freer, od_freer, .func (PySem.W.fnOf "freer" "freer" (defArgs sFreer) (defBody sFreer) (defScope sFreer) .none kV_freer dc_freer pm_freer an_freer cd_freer ct_freer), sl_freer⟩)
    (c_freer : PySem.W.codeIn K cd_freer "freer" = true) (k_freer : PySem.W.keepIn K (.ref f_freer) = true)
    (a_as_free : PySem.W.nsIn K mainGlobals "as_free" = some (some (.ref f_as_free)))
    (l_as_free : K.lookup f_as_free = some ⟨oc_as_free, od_as_free, .func (PySem.W.fnOf "as_free" "as_free" (defArgs sAsFree) (defBody sAsFree) (defScope sAsFree) .none kV_as_free dc_as_free pm_as_free an_as_free cd_as_free ct_as_free), sl_as_free⟩)
    (c_as_free : PySem.W.codeIn K cd_as_free "as_free" = true) (k_as_free : PySem.W.keepIn K (.ref f_as_free) = true)
    (a_law : PySem.W.nsIn K mainGlobals "law" = some (some (.ref f_law)))
    (l_law : K.lookup f_law = some ⟨oc_law, od_law, .func (PySem.W.fnOf "law" "law" (defArgs s_law) (defBody s_law) (defScope s_law) .none kV_law dc_law pm_law an_law cd_law ct_law), sl_law⟩)
    (c_law : PySem.W.codeIn K cd_law "law" = true) (k_law : PySem.W.keepIn K (.ref f_law) = true)
    (z_len : PySem.W.nsIn K mainGlobals "len" = some none)
    (z_int : PySem.W.nsIn K mainGlobals "int" = some none)
    (z_abs : PySem.W.nsIn K mainGlobals "abs" = some none)
    (z_repr : PySem.W.nsIn K mainGlobals "repr" = some none)
    (z_isinstance : PySem.W.nsIn K mainGlobals "isinstance" = some none)
    (z_bool : PySem.W.nsIn K mainGlobals "bool" = some none)
    (z_str : PySem.W.nsIn K mainGlobals "str" = some none)
    (z_all : PySem.W.nsIn K mainGlobals "all" = some none)
    (z_range : PySem.W.nsIn K mainGlobals "range" = some none)
    (z_enumerate : PySem.W.nsIn K mainGlobals "enumerate" = some none)
    (z_tuple : PySem.W.nsIn K mainGlobals "tuple" = some none)
    {kd : Addr} {t1 t2 t3 t4 : Tok} {kn : Nat} {ks : Array (Option Value)} (aK : PySem.W.nsIn K mainGlobals "KINDS" = some (some (.ref kd)))
    (lK : K.lookup kd = some ⟨.type "tuple", none, .seq #[.str "fixed" t1, .str "stable" t2, .str "changing" t3, .str "effect" t4] kn, ks⟩)
    : ∃ fd : FuncData, (∀ (s : Shared) (v : Value), BindsTo s fd ⟨[v], []⟩ [("_law_script", v)]) ∧ ∀ bs : Heap, SM bs → K.In bs → bs.Ns mainGlobals mg → FnG l.prog w K mg bs 4 fa fd ["_law_script"] (spLaw K) := by
  have e := hfa.symm.trans (PySem.W.mg_of X G a_law)
  cases e
  have T : Blt mg := ⟨PySem.W.mg_none_of X G z_len, PySem.W.mg_none_of X G z_int, PySem.W.mg_none_of X G z_abs, PySem.W.mg_none_of X G z_repr, PySem.W.mg_none_of X G z_isinstance, PySem.W.mg_none_of X G z_bool, PySem.W.mg_none_of X G z_str, PySem.W.mg_none_of X G z_all, PySem.W.mg_none_of X G z_range, PySem.W.mg_none_of X G z_enumerate, PySem.W.mg_none_of X G z_tuple⟩
  have F_bag := fun_mk (st := sBag) l_bag c_bag k_bag
  have b_bag := F_bag.binds (ps := ["_law_script"]) fun _ _ _ _ _ _ us hl => match us, hl with | [_], _ => rfl
  have m_bag := PySem.W.mg_of X G a_bag
  have F_take := fun_mk (st := sTake) l_take c_take k_take
  have b_take := F_take.binds (ps := ["_law_bag_here", "_law_most"]) fun _ _ _ _ _ _ us hl => match us, hl with | [_, _], _ => rfl
  have m_take := PySem.W.mg_of X G a_take
  have F_alike := fun_mk (st := sAlike) l_alike c_alike k_alike
  have b_alike := F_alike.binds (ps := ["_law_one", "_law_other"]) fun _ _ _ _ _ _ us hl => match us, hl with | [_, _], _ => rfl
  have m_alike := PySem.W.mg_of X G a_alike
  have F_names := fun_mk (st := s_names) l_names c_names k_names
  have b_names := F_names.binds (ps := ["_law_bag_here", "_law_many"]) fun _ _ _ _ _ _ us hl => match us, hl with | [_, _], _ => rfl
  have m_names := PySem.W.mg_of X G a_names
  have F_kinds := fun_mk (st := sKinds) l_kinds c_kinds k_kinds
  have b_kinds := F_kinds.binds (ps := []) fun _ _ _ _ _ _ us hl => match us, hl with | [], _ => rfl
  have m_kinds := PySem.W.mg_of X G a_kinds
  have F_thing := fun_mk (st := s_thing) l_thing c_thing k_thing
  have b_thing := F_thing.binds (ps := ["_law_bag_here", "_law_names_here"]) fun _ _ _ _ _ _ us hl => match us, hl with | [_, _], _ => rfl
  have m_thing := PySem.W.mg_of X G a_thing
  have F_due := fun_mk (st := sDue) l_due c_due k_due
  have b_due := F_due.binds (ps := ["_law_thing_here"]) fun _ _ _ _ _ _ us hl => match us, hl with | [_], _ => rfl
  have m_due := PySem.W.mg_of X G a_due
  have F_is_integer := fun_mk (st := sInteger) l_is_integer c_is_integer k_is_integer
  have b_is_integer := F_is_integer.binds (ps := ["thing"]) fun _ _ _ _ _ _ us hl => match us, hl with | [_], _ => rfl
  have m_is_integer := PySem.W.mg_of X G a_is_integer
  have F_is_name := fun_mk (st := sName) l_is_name c_is_name k_is_name
  have b_is_name := F_is_name.binds (ps := ["thing"]) fun _ _ _ _ _ _ us hl => match us, hl with | [_], _ => rfl
  have m_is_name := PySem.W.mg_of X G a_is_name
  have F_is_kind := fun_mk (st := sKind2) l_is_kind c_is_kind k_is_kind
  have b_is_kind := F_is_kind.binds (ps := ["thing"]) fun _ _ _ _ _ _ us hl => match us, hl with | [_], _ => rfl
  have m_is_kind := PySem.W.mg_of X G a_is_kind
  have F_freer := fun_mk (st := sFreer) l_freer c_freer k_freer
  have b_freer := F_freer.binds (ps := ["one", "other"]) fun _ _ _ _ _ _ us hl => match us, hl with | [_, _], _ => rfl
  have m_freer := PySem.W.mg_of X G a_freer
  have F_as_free := fun_mk (st := sAsFree) l_as_free c_as_free k_as_free
  have b_as_free := F_as_free.binds (ps := ["one", "other"]) fun _ _ _ _ _ _ us hl => match us, hl with | [_, _], _ => rfl
  have m_as_free := PySem.W.mg_of X G a_as_free
  have F_law := fun_mk (st := s_law) l_law c_law k_law
  have TK : KTup K mg kd := ⟨PySem.W.mg_of X G aK, _, _, _, lK, rfl, rfl, rfl, by show 4 ≤ sizeLine; decide, .cons ⟨_, rfl⟩ (.cons ⟨_, rfl⟩ (.cons ⟨_, rfl⟩ (.cons ⟨_, rfl⟩ .nil)))⟩
  exact ⟨_, fun s v => .of_eq rfl, fun bs sm _ _ => ok_law F_law T TK sm F_bag b_bag m_bag F_take b_take m_take F_alike b_alike m_alike F_names b_names m_names F_kinds b_kinds m_kinds F_thing b_thing m_thing F_due b_due m_due F_is_integer b_is_integer m_is_integer F_is_name b_is_name m_is_name F_is_kind b_is_kind m_is_kind F_freer b_freer m_freer F_as_free b_as_free m_as_free⟩
end AL
open PySem PySem.W PyProof.Rows
set_option maxRecDepth 100000 in
set_option maxHeartbeats 0 in
theorem PySem.Challenge.cw_plancalls_k11_kinds_known_holds : PySem.Challenge.rw_plancalls_k11_kinds_known.Holds := by
  w_on; o_law; k_head; (case hw => w_witness2)
  k_fill
  refine AL.walkG (l := PySem.Challenge.rw_plancalls_k11_kinds_known) (k := 4) (sp := AL.spLaw) (x := "_law_script") (by decide +kernel) rfl (by decide) rfl ⟨rfl, by decide, by decide⟩ (fun w h Y => PySem.W.kIn_of Y) ?F (fun K H a ns hl _ hS => ⟨a, ns, rfl, hS, hl, fun _ => rfl⟩)
  case F =>
    intro w mg fa h KX G hmg
    refine' AL.all_mk KX G hmg ?a_bag ?l_bag ?c_bag ?k_bag ?a_take ?l_take ?c_take ?k_take ?a_alike ?l_alike ?c_alike ?k_alike ?a_names ?l_names ?c_names ?k_names ?a_kinds ?l_kinds ?c_kinds ?k_kinds ?a_thing ?l_thing ?c_thing ?k_thing ?a_due ?l_due ?c_due ?k_due ?a_is_integer ?l_is_integer ?c_is_integer ?k_is_integer ?a_is_name ?l_is_name ?c_is_name ?k_is_name ?a_is_kind ?l_is_kind ?c_is_kind ?k_is_kind ?a_freer ?l_freer ?c_freer ?k_freer ?a_as_free ?l_as_free ?c_as_free ?k_as_free ?a_law ?l_law ?c_law ?k_law ?z_len ?z_int ?z_abs ?z_repr ?z_isinstance ?z_bool ?z_str ?z_all ?z_range ?z_enumerate ?z_tuple ?aK ?lK
    (case a_bag => k_is)
    (case l_bag => k_is)
    (case c_bag => k_is)
    (case k_bag => k_is)
    (case a_take => k_is)
    (case l_take => k_is)
    (case c_take => k_is)
    (case k_take => k_is)
    (case a_alike => k_is)
    (case l_alike => k_is)
    (case c_alike => k_is)
    (case k_alike => k_is)
    (case a_names => k_is)
    (case l_names => k_is)
    (case c_names => k_is)
    (case k_names => k_is)
    (case a_kinds => k_is)
    (case l_kinds => k_is)
    (case c_kinds => k_is)
    (case k_kinds => k_is)
    (case a_thing => k_is)
    (case l_thing => k_is)
    (case c_thing => k_is)
    (case k_thing => k_is)
    (case a_due => k_is)
    (case l_due => k_is)
    (case c_due => k_is)
    (case k_due => k_is)
    (case a_is_integer => k_is)
    (case l_is_integer => k_is)
    (case c_is_integer => k_is)
    (case k_is_integer => k_is)
    (case a_is_name => k_is)
    (case l_is_name => k_is)
    (case c_is_name => k_is)
    (case k_is_name => k_is)
    (case a_is_kind => k_is)
    (case l_is_kind => k_is)
    (case c_is_kind => k_is)
    (case k_is_kind => k_is)
    (case a_freer => k_is)
    (case l_freer => k_is)
    (case c_freer => k_is)
    (case k_freer => k_is)
    (case a_as_free => k_is)
    (case l_as_free => k_is)
    (case c_as_free => k_is)
    (case k_as_free => k_is)
    (case a_law => k_is)
    (case l_law => k_is)
    (case c_law => k_is)
    (case k_law => k_is)
    (case z_len => k_is)
    (case z_int => k_is)
    (case z_abs => k_is)
    (case z_repr => k_is)
    (case z_isinstance => k_is)
    (case z_bool => k_is)
    (case z_str => k_is)
    (case z_all => k_is)
    (case z_range => k_is)
    (case z_enumerate => k_is)
    (case z_tuple => k_is)
    (case aK => k_is)
    (case lK => k_is)
