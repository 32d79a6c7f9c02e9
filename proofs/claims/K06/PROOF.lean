import PyProof.Rows.All
import Wide.All
import OpenK.AllK
import Wide.FinOn
import PyProof.EqAt
import PyProof.EqKinds
import PyProof.TupleCall
import KE.KStateDown
import Lean
import HandS.Base
import HandS.Call
import HandS.List
import HandS.Comp
import HandS.Ends
import HandS.Dict
import HandS.Iter
import HandS.More
import HandS.Words
import HandS.WordsList
import HandS.WordsDict
import HandS.Exc
import HandS.WordsExc
import HandS.Defaults
import HandS.Head0
import HandS.Head1
import HandS.Head2
import HandS.HeadEnd
import HandS.HeadHook1
import HandS.HeadHook2
import HandS.EndBits
import HandS.Wide
import HandS.IsInst
import HandS.Style
import HandS.Flow
import HandS.SortInts
import HandS.ExcIs
import HandS.Conv
import HandS.Text
import HandS.Walk
import HandS.MakeKwOnly
import HandS.Codes
import HandS.Zip0
import HandS.DictComp
import HandS.DictEq
import HandS.NoneIn
import HandS.Small
import KE.KDictPairs
import KE.GoesEnumKw
import KE.KDictCopyH
import HandS.ExcInit
import HandS.ExcField
import HandS.OwnEq
import HandS.TryOnly
import HandS.Deep
import KE.KEqNest
import HandS.MakeKw
import PySem.Challenge.RW_editionrows_k06_whole_histories
set_option Elab.async false
set_option linter.all false
set_option maxRecDepth 100000
set_option maxHeartbeats 4000000
/-! What every text of ours begins with: a called def in one word, the head's Hook with one more Bool, the end with the script's bits. -/
namespace Evl2
open PySem PySem.Spec PyProof.Rows L2
/-- a def of the text, with its promise, as a caller takes it -/
structure Callee (P : Program) (w : World) (K : PySem.W.Frag) (mg : Str → Option Value) (base : Heap) (CX : CXT) (k : Nat) (x : Str) (ps : List Str) (dvs : List V) (sp : Sp) : Prop where
  ex : ∃ (fd : FuncData) (ds : List Value), FnOk P w K mg base CX k (He.ga K x) fd ps sp ∧ Binds K fd ps ds ∧ Vals dvs ds
  kp : PySem.W.keepIn K (.ref (He.ga K x)) = true
  g : mg x = some (.ref (He.ga K x))
theorem Callee.up {P : Program} {w : World} {K : PySem.W.Frag} {mg : Str → Option Value} {base : Heap} {CX : CXT} {j k : Nat} {x : Str} {ps : List Str} {dvs : List V} {sp : Sp}
    (C : Callee P w K mg base CX j x ps dvs sp) (h : j ≤ k) : Callee P w K mg base CX k x ps dvs sp := by
  obtain ⟨fd, ds, F, b, v⟩ := C.ex
  exact ⟨⟨fd, ds, F.mono h, b, v⟩, C.kp, C.g⟩
/-- f(e, ..) -/
theorem pcall {X : Cx} {k : Nat} {x : Str} {ps : List Str} {dvs : List V} {sp : Sp} {p pos : Pos} {e : Expr} {es : List Expr} {t : TA} (C : Callee X.prog X.w X.K X.mg X.base CX0 k x ps dvs sp) (hr : Room k X.A) (ha : PA X (e :: es) t) (hg : Gl X x := by rfl)
    (hdb : (x == ("__debug__" : Str)) = false := by decide) (he : starEach (e :: es) X.env = (false, eval e X.env) :: starEach es X.env := by rfl) (hpl : (backTo pos (starEach es X.env)).any (·.1) = false := by rfl) :
    PE X (.Call (.Name x p) (e :: es) [] pos) (tCall sp dvs E0 t) := by
  obtain ⟨fd, ds, F, b, v⟩ := C.ex
  exact pe_call F hr hg C.g C.kp b v pass0 ha hdb he hpl
/-- f() -/
theorem pcall0 {X : Cx} {k : Nat} {x : Str} {ps : List Str} {dvs : List V} {sp : Sp} {p pos : Pos} (C : Callee X.prog X.w X.K X.mg X.base CX0 k x ps dvs sp) (hr : Room k X.A) (hg : Gl X x := by rfl)
    (hdb : (x == ("__debug__" : Str)) = false := by decide) : PE X (.Call (.Name x p) [] [] pos) (tCall sp dvs E0 tNil) := by
  obtain ⟨fd, ds, F, b, v⟩ := C.ex
  exact pe_call0 F hr hg C.g C.kp b v pass0 hdb
/-! ### the head's Hook: the library's facts and one more Bool -/
abbrev AlP : Type := He.AlD × Bool
/-- addresses not yet seen, told by the bits of a number -/
def newA : List Addr → Nat → List Addr → (Nat → List Addr → List Addr) → List Addr
  | [], s, acc, k => k s acc
  | a :: r, s, acc, k => HandSHeadRun.frNat a fun a => match Nat.beq (Nat.land (Nat.shiftRight s a) 1) 1 with
    | true => newA r s acc k
    | false => HandSHeadRun.frNat (Nat.lor s (Nat.shiftLeft 1 a)) fun s => newA r s (a :: acc) k
def refsA (g : Addr → Option Obj) : List Addr → List Addr
  | [] => []
  | a :: r => (match g a with
    | some o => He.refsD o
    | none => []) ++ refsA g r
/-- the addresses reached from the globals in so many steps, each object looked at once -/
def levA (g : Addr → Option Obj) : Nat → Nat → List Addr → List Addr
  | 0, _, fr => fr
  | n + 1, s, fr => newA (refsA g fr) s [] fun s fr' => fr ++ levA g n s fr'
def asW (g : Addr → Option Obj) (n : Nat) : List Addr := levA g n (Nat.shiftLeft 1 mainGlobals) [mainGlobals]
def mapV : List He.DefD → List He.FnW
  | [] => []
  | d :: r => d.val :: mapV r
def obsP (n : Nat) (fa : List He.Fa) (fn : List He.DefD) (ex : PySem.W.Frag → Bool) (g : Addr → Option Obj) : AlP := (He.obsD fa fn (He.frG g (asW g n)), ex (He.frG g (asW g n)))
def valP (fn : List He.DefD) : AlP := ((true, mapV fn), true)
theorem mapV_eq : ∀ fn : List He.DefD, mapV fn = fn.map He.DefD.val
  | [] => rfl
  | d :: r => congrArg (d.val :: ·) (mapV_eq r)
theorem valP_eq (fn : List He.DefD) : valP fn = (He.valD fn, true) := by
  unfold valP He.valD
  rw [mapV_eq]
def hookP (n : Nat) (fa : List He.Fa) (fn : List He.DefD) (ex : PySem.W.Frag → Bool) : PySem.W.Hook where
  α := AlP
  obs := fun s => obsP n fa fn ex s.heap.get?
  val := fun _ => valP fn
  says := fun _ h => ∃ K : PySem.W.Frag, K.In h ∧ (He.SaysD fa fn K ∧ ex K = true)
  of := fun _ _ e => ⟨_, He.frG_in, (congrArg (fun z : AlP => z.1) e).trans (congrArg (fun z : AlP => z.1) (valP_eq fn)), congrArg (fun z : AlP => z.2) e⟩
  keeps := fun _ _ _ ⟨K, hK, c⟩ k => ⟨K, PySem.W.Frag.In.keeps hK k, c⟩
theorem obsP_eq {n : Nat} {fa : List He.Fa} {fn : List He.DefD} {ex : PySem.W.Frag → Bool} {g : Addr → Option Obj} {s : Shared} (h : ∀ a, g a = s.heap.get? a) : obsP n fa fn ex g = (hookP n fa fn ex).obs s := by
  have e : g = s.heap.get? := funext h
  rw [e] <;> rfl
/-- what a law's end wants of its promise at a written part K -/
def LawOk (l : PySem.W.OpenLaw) (w : World) (mg : Str → Option Value) (CX : CXT) (k n : Nat) (x : Str) (fa : Addr) (K : PySem.W.Frag) : Prop :=
  ∃ (fd : FuncData) (sp : Sp), (∀ (s : Shared) (u : Value), BindsTo s fd ⟨[u], []⟩ [(x, u)]) ∧
    (∀ (H : Hp) (a : Addr) (ns : List Int), ns.length ≤ n → (∀ z ∈ ns, Builtin.Int.intBits z ≤ 1048576) → Only H → SqL K H a (ns.map V.int) → sp [.ref a] H (fun v _ => v = .bl true) fun _ _ _ => False) ∧
    ∀ base : Heap, K.In base → base.Ns mainGlobals mg → FnOk l.prog w K mg base CX k fa fd [x] sp
theorem walk_bits {l : PySem.W.OpenLaw} {n k : Nat} {q : Program} {loose : List Str} {XP : (Str → Option Value) → Heap → Prop} {YP : World → Heap → Prop} {d : DefRec} {CX : CXT} {x : Str} (hn : l.most = some n) (hn2 : n ≤ sizeLine) (hdf : d.params.defaults = []) (hr : Room k callerA)
    (F : ∀ (w : World) (mg : Str → Option Value) (fa : Addr) (h : Heap), YP w h → h.Ns mainGlobals mg → mg d.name = some (.ref fa) → ∃ K : PySem.W.Frag, K.In h ∧ LawOk l w mg CX k n x fa K)
    (hCX : ∀ (H : Hp) (s : Shared) (e : Value) (s' : Shared), CX [] H s (fun _ _ _ => False) e s' → False) : PySem.W.WalkO q loose XP YP l.row.toRowW d [] (fun f vs => PySem.call f vs) := by
  refine Att.attach_callB hn hdf fun w s₀ s₁ mg mb fa o pm cd doc a vs ns G Y ho hd hcd hmg hobj hints hlen hbits hg => ?_
  obtain ⟨K, KX, fd, sp, hb, hsp, hF⟩ := F w mg fa _ Y G.T.g hmg
  exact law_call KX G.T.g G.T.b G.T.builtins G.T.nolimit hg hobj hints (Nat.le_trans hlen hn2) hr hF hb (fun H hO hS => hsp H a ns hlen hbits hO hS) fun H e s' => hCX H s₁ e s'
end Evl2
/-! ### more words of ours -/
namespace Evl2
open PySem PySem.Spec PyProof.Rows L2
section
variable {P : Program} {w : World} {K : PySem.W.Frag} {mg : Str → Option Value} {base : Heap}
/-- a method without defaults -/
theorem mkMeth {m q : Str} {params : Arguments} {body : List Stmt} {scope : Scope} {N ps : List Str} {k : Nat} {sp : Sp} {f : Addr} (hF : ∃ fd, FunD K m q params body scope [] [] f fd) (S : FnScope N ps scope)
    (hb : ∀ (kV doc pm : Value) (an : Option Addr) (cdv ct : Value) (us : List Value), us.length = ps.length → bindArgs (PySem.W.fnOf m q params body scope .none kV doc pm an cdv ct) ⟨us, []⟩ = pure (ps.zip us))
    (len : ∀ vs H Q E, sp vs H Q E → vs.length = ps.length)
    (hbody : ∀ (cdv : Value) (A : Around) (outer : List Env) (s : Shared) (H : Hp) (vs : List V) (Q : VK) (E : XK), Room k (A.deeper (envOfC q scope s.heap.objs.size f cdv)) → sp vs H Q E →
      ∃ t, PSs (cxOf CX0 P w K mg base N q scope f cdv A outer s H E).nox body t ∧ t { nx := fun _ H' => Q .non H', rt := Q } (start N vs) H) : ∃ fd, FnOk P w K mg base CX0 (k + 1) f fd ps sp ∧ Binds K fd ps [] := by
  obtain ⟨fd, F⟩ := hF
  refine ⟨fd, F.ok S len fun cdv A outer s H vs Q E hr h => ?_, F.bindsN hb⟩
  obtain ⟨t, h1, h2⟩ := hbody cdv A outer s H vs Q E hr h
  exact ⟨t, h1.nox, h2⟩
/-- a def without defaults, as a callee -/
theorem mkCallee {x y : Str} {params : Arguments} {body : List Stmt} {scope : Scope} {N ps : List Str} {k : Nat} {sp : Sp} (hF : ∃ fd, FunD K y y params body scope [] [] (He.ga K x) fd) (hg : mg x = some (.ref (He.ga K x))) (S : FnScope N ps scope)
    (hb : ∀ (kV doc pm : Value) (an : Option Addr) (cdv ct : Value) (us : List Value), us.length = ps.length → bindArgs (PySem.W.fnOf y y params body scope .none kV doc pm an cdv ct) ⟨us, []⟩ = pure (ps.zip us))
    (len : ∀ vs H Q E, sp vs H Q E → vs.length = ps.length)
    (hbody : ∀ (cdv : Value) (A : Around) (outer : List Env) (s : Shared) (H : Hp) (vs : List V) (Q : VK) (E : XK), Room k (A.deeper (envOfC y scope s.heap.objs.size (He.ga K x) cdv)) → sp vs H Q E →
      ∃ t, PSs (cxOf CX0 P w K mg base N y scope (He.ga K x) cdv A outer s H E).nox body t ∧ t { nx := fun _ H' => Q .non H', rt := Q } (start N vs) H) : Callee P w K mg base CX0 (k + 1) x ps [] sp := by
  obtain ⟨fd, F⟩ := hF
  refine ⟨⟨fd, [], F.ok S len fun cdv A outer s H vs Q E hr h => ?_, F.bindsN hb, .nil⟩, F.kp, hg⟩
  obtain ⟨t, h1, h2⟩ := hbody cdv A outer s H vs Q E hr h
  exact ⟨t, h1.nox, h2⟩
end
theorem s_whenX {t : TT} {tu : TS} {D : Ends} {σ : L2.St} {H : Hp} (P : Hp → Prop) (test : ∀ R : Bool → Hp → Prop, (∀ b H1, P H1 → R b H1) → t σ H R) (body : ∀ H1, P H1 → tu D σ H1) (skip : ∀ H1, P H1 → D.nx σ H1) : tIfS t tu tNext D σ H :=
  test _ fun b H1 p => by
    cases b
    · exact iteF (skip H1 p)
    · exact iteT (body H1 p)
theorem nxt {D : Ends} {σ : L2.St} {H : Hp} (h : D.nx σ H) : tNext D σ H := h
theorem iteD {c A B : Prop} [Decidable c] (hc : ¬ c) (h : B) : if decide c = true then A else B := by
  rw [decide_eq_false hc]
  exact iteF h
theorem iteDT {c A B : Prop} [Decidable c] (hc : c) (h : A) : if decide c = true then A else B := by
  rw [decide_eq_true hc]
  exact iteT h
theorem iteNF {c A B : Prop} [Decidable c] (hc : ¬ c) (h : A) : if (!decide c) = true then A else B := by
  rw [decide_eq_false hc]
  exact iteT h
theorem nes {a b : Str} (h : a ≠ b) : ¬ V.str a = V.str b := fun z => h (V.str.inj z)
theorem nei {a b : Int} (h : a ≠ b) : ¬ V.int a = V.int b := fun z => h (V.int.inj z)
/-- an own error class that is kept -/
def excB (K : PySem.W.Frag) (x : Str) : Bool := PySem.W.keepIn K (.ref (He.ga K x))
/-- what isinstance asks of an own class -/
def insB (K : PySem.W.Frag) (x : Str) : Bool := decide (PySem.W.findIn K (.ref (He.ga K x)) "__class__" = some (some (.builtin "object.__class__"))) && (decide (PySem.W.specialIn K (.builtin "object.__class__") "__get__" = some (some (.builtin "getset_descriptor.__get__"))) &&
  (decide (PySem.W.takesIn K (.builtin "object.__class__") = some true) && decide (PySem.W.mroIn K (He.ga K x) (.type "object") = some true)))
theorem insC_of {K : PySem.W.Frag} {x : Str} (h : insB K x = true) (c : Cls K (He.ga K x)) : C8.InsC K (He.ga K x) := by
  unfold insB at h
  rw [Bool.and_eq_true, Bool.and_eq_true, Bool.and_eq_true] at h
  exact ⟨c, of_decide_eq_true h.1, of_decide_eq_true h.2.1, of_decide_eq_true h.2.2.1, of_decide_eq_true h.2.2.2, if_pos (beq_self_eq_true _)⟩
/-- the own class x is none of the builtin ones -/
def noTs : List String := ["NoneType", "bool", "int", "str", "list", "tuple", "dict"]
def ninB (K : PySem.W.Frag) (x : Str) : Bool := noTs.all fun t => decide (PySem.W.kitOne K (.type t) (.ref (He.ga K x)) = some false) && PySem.W.notFirst K (He.ga K x) (.type t)
theorem ninB_kit {K : PySem.W.Frag} {x : Str} (h : ninB K x = true) {t : String} (ht : t ∈ noTs) : PySem.W.kitOne K (.type t) (.ref (He.ga K x)) = some false := of_decide_eq_true (Bool.and_eq_true_iff.mp (List.all_eq_true.mp h t ht)).1
theorem ninB_first {K : PySem.W.Frag} {x : Str} (h : ninB K x = true) {t : String} (ht : t ∈ noTs) : PySem.W.notFirst K (He.ga K x) (.type t) = true := (Bool.and_eq_true_iff.mp (List.all_eq_true.mp h t ht)).2
/-- what != of an own class asks -/
def neB (K : PySem.W.Frag) (x : Str) : Bool := decide (PySem.W.findIn K (.ref (He.ga K x)) "__ne__" = some (some (.builtin "object.__ne__"))) && decide (PySem.W.mroIn K (He.ga K x) (.type "object") = some true)
structure NeC (K : PySem.W.Frag) (C : Addr) : Prop where
  at_ : PySem.W.findIn K (.ref C) "__ne__" = some (some (.builtin "object.__ne__"))
  ob : PySem.W.mroIn K C (.type "object") = some true
theorem neC_of {K : PySem.W.Frag} {x : Str} (h : neB K x = true) : NeC K (He.ga K x) := by
  unfold neB at h
  rw [Bool.and_eq_true] at h
  exact ⟨of_decide_eq_true h.1, of_decide_eq_true h.2⟩
/-- an own error class over ValueError with an own __init__ that keeps its argument under f -/
def oexB (K : PySem.W.Frag) (x f : Str) : Bool := (match K.lookup (He.ga K x) with
  | some ⟨.type "type", _, .cls cd, sl⟩ => (match cd.mro, sl.toList with
    | .ref C' :: bm, [_, _, _, _, some (.builtin n), _] => C' == He.ga K x && (n == "ValueError.__new__" && (!cd.hasDel && (PySem.HandSPX.refsVE bm && cd.hasDict)))
    | _, _ => false)
  | _ => false) && (decide (PySem.W.findIn K (.ref (He.ga K x)) "__setattr__" = some (some (.builtin "object.__setattr__"))) && (decide (PySem.W.subIn K (.ref (He.ga K x)) (.type "BaseException") = some true) && (decide (PySem.W.typeIn K (.ref (He.ga K x)) = some (.type "type")) &&
    (PySem.W.keepIn K (.ref (He.ga K x)) && (xfB K (He.ga K x) && (decide (PySem.W.findIn K (.ref (He.ga K x)) "__init__" = some (some (.ref (He.ma K (He.ga K x) "__init__")))) && (decide (PySem.W.typeIn K (.ref (He.ma K (He.ga K x) "__init__")) = some (.type "function")) &&
    (decide (PySem.W.findIn K (.ref (He.ga K x)) f = some none) && decide (PySem.W.exmOne K (.ref (He.ga K x)) (.ref (He.ga K x)) = some true)))))))))
structure OexF (K : PySem.W.Frag) (x f : Str) : Prop where
  o : OexC K (He.ga K x)
  xf : XfC K (He.ga K x)
  i : PySem.W.findIn K (.ref (He.ga K x)) "__init__" = some (some (.ref (He.ma K (He.ga K x) "__init__")))
  ti : PySem.W.typeIn K (.ref (He.ma K (He.ga K x) "__init__")) = some (.type "function")
  no : PySem.W.findIn K (.ref (He.ga K x)) f = some none
  me : PySem.W.exmOne K (.ref (He.ga K x)) (.ref (He.ga K x)) = some true
theorem oexB_ok {K : PySem.W.Frag} {x f : Str} (h : oexB K x f = true) : OexF K x f := by
  unfold oexB at h
  simp only [Bool.and_eq_true, decide_eq_true_eq] at h
  obtain ⟨h0, h1, h2, h3, h4, h5, h6, h7, h8, h9⟩ := h
  refine ⟨⟨?_, h1, h2, h3, h4⟩, xfB_ok h5, h6, h7, h8, h9⟩
  split at h0
  · rename_i dd cd sl ho
    split at h0
    · rename_i C' bm k0 k1 k2 k3 n k5 hm hs
      simp only [Bool.and_eq_true, beq_iff_eq, Bool.not_eq_true'] at h0
      obtain ⟨hc, hn, hdel, hve, hd⟩ := h0
      obtain ⟨nm, bs, mro, ns, qn, hd', sn, sub, ab, col, del⟩ := cd
      dsimp only at hm hdel hd
      subst hm hdel hd hc hn
      have hsl : sl = #[k0, k1, k2, k3, some (.builtin "ValueError.__new__"), k5] := by
        obtain ⟨l⟩ := sl
        simp only at hs
        rw [hs]
      subst hsl
      exact ⟨_, _, _, _, _, _, _, _, _, _, _, _, _, _, _, ho, hve⟩
    · cases h0
  · cases h0
/-- the empty tuple of the written part -/
def emptyTupB (K : PySem.W.Frag) (a : Addr) : Bool := match K.lookup a with
  | some ⟨.type c, _, .seq its _, _⟩ => decide (c = "tuple") && decide (its.size = 0)
  | _ => false
/-- a pool of draws: a list of two ints -/
def Pl (H : Hp) (a : Addr) : Prop := ∃ z0 z1 : Int, H a = some (.lst [.int z0, .int z1])
/-- all but what stands at a is as it was, at a stands a pool -/
def PlEx (a : Addr) (H H' : Hp) : Prop := (∀ b o, b ≠ a → H b = some o → H' b = some o) ∧ Pl H' a
theorem mod_lo {i j : Int} (h : 0 < j) : 0 ≤ i.fmod j := Int.fmod_nonneg_of_pos i h
theorem mod_hi {i j : Int} (h : 0 < j) : i.fmod j < j := Int.fmod_lt_of_pos i h
/-- values of built-in types: is it an int (no bool)? -/
def isI : V → Bool
  | .int _ => true
  | _ => false
theorem kit_whole {K : PySem.W.Frag} {H : Hp} {x : V} {t : String} (ty : TyX K H x (.type t)) : ∃ a b : Bool, kitB t "int" = some a ∧ kitB t "bool" = some b ∧ (a && !b) = isI x := by
  cases ty with
  | base h => cases h <;> first | exact ⟨true, false, by decide +kernel, by decide +kernel, rfl⟩ | exact ⟨true, true, by decide +kernel, by decide +kernel, rfl⟩ | exact ⟨false, false, by decide +kernel, by decide +kernel, rfl⟩
  | _ => exact ⟨false, false, by decide +kernel, by decide +kernel, rfl⟩
/-! ### heaps -/
theorem same_new {H : Hp} {p : Addr} {o : HO} (h : H p = none) : Same H (upd H p o) := fun a u e => by
  rw [upd_ne (ne_of_none e h)]
  exact e
theorem same_mut {H H' : Hp} {p : Addr} {o : HO} (e : Same H H') (h : H p = none) : Same H (upd H' p o) := fun a u ha => by
  rw [upd_ne (ne_of_none ha h)]
  exact e a u ha
theorem same_tup {K : PySem.W.Frag} {H H' : Hp} {a : Addr} {xs : List V} (e : Same H H') (h : SqT K H a xs) : SqT K H' a xs := by
  rcases h with (h | ⟨o, h⟩) | h
  · exact .inl (.inl (e _ _ h))
  · exact .inl (.inr ⟨o, e _ _ h⟩)
  · exact .inr h
theorem sqL_of {K : PySem.W.Frag} {H : Hp} {a : Addr} {xs : List V} (h : H a = some (.lst xs)) : SqL K H a xs := .inl (.inl h)
theorem sqT_of {K : PySem.W.Frag} {H : Hp} {a : Addr} {xs : List V} (h : H a = some (.tup xs)) : SqT K H a xs := .inl (.inl h)
/-! ### comprehensions that change nothing -/
section
variable {K : PySem.W.Frag} {σ : L2.St} {H : Hp} {tl te : TE} {ta : TA} {tt : TT} {j : Nat} {vs : List Nat} {Q : VK} {xs : List V}
theorem lc_one {f : V → Bool} {v : V → V} {H' : Hp} {D : Addr} {zs : List V} {x : V} (hD : H D = none) (hz : zs.length ≤ 100000) {σ2 : L2.St} (p : Same H H' ∧ H' D = some (.lst zs))
    (ht : ∀ R : Bool → Hp → Prop, (∀ H2, Same H' H2 → R (f x) H2) → tt σ2 H' R) (he : f x = true → ∀ H', Same H H' → ∀ R : VK, (∀ H2, Same H' H2 → R (v x) H2) → te σ2 H' R) {N : Hp → Prop}
    (hN : ∀ H', Same H H' → H' D = some (.lst (zs ++ ([x].filter f).map v)) → N H') :
    tt σ2 H' fun b H3 => if b = true then te σ2 H3 fun y H4 => ∃ acc, H4 D = some (.lst acc) ∧ acc.length < sizeLine ∧ N (upd H4 D (.lst (acc ++ [y]))) else N H3 := by
  refine ht _ fun H3 e3 => ?_
  cases hf : f x with
  | true =>
    refine iteT (he hf H3 (p.1.trans e3) _ fun H4 e4 => ⟨zs, e4 D _ (e3 D _ p.2), Nat.lt_of_le_of_lt hz (by decide), hN _ (same_mut ((p.1.trans e3).trans e4) hD) ?_⟩)
    rw [upd_same, List.filter_cons, if_pos hf]
    rfl
  | false =>
    refine iteF (hN _ (p.1.trans e3) ?_)
    rw [List.filter_cons, if_neg (by rw [hf]; decide)]
    show H3 D = some (.lst (zs ++ []))
    rw [List.append_nil]
    exact e3 D _ p.2
theorem take_one (f : V → Bool) (v : V → V) {i : Nat} {x : V} (h : xs[i]? = some x) : ((xs.take i).filter f).map v ++ ([x].filter f).map v = ((xs.take (i + 1)).filter f).map v := by
  rw [List.take_add_one, h, List.filter_append, List.map_append]
  rfl
theorem take_len (f : V → Bool) (v : V → V) (i : Nat) : (((xs.take i).filter f).map v).length ≤ xs.length := by
  rw [List.length_map]
  refine Nat.le_trans (List.length_filter_le _ _) ?_
  rw [List.length_take]
  exact Nat.min_le_right _ _
theorem tlc_L (f : V → Bool) (v : V → V) (htl : ∀ R : VK, (∀ a H1, Same H H1 → SqL K H1 a xs → R (.ref a) H1) → tl σ H R) (hz : xs.length ≤ 100000) (hw : ∀ x, wipe ((wipe σ vs).set j (some x)) vs = wipe σ vs)
    (ht : ∀ x ∈ xs, ∀ H', Same H H' → ∀ R : Bool → Hp → Prop, (∀ H2, Same H' H2 → R (f x) H2) → tt ((wipe σ vs).set j (some x)) H' R)
    (he : ∀ x ∈ xs, f x = true → ∀ H', Same H H' → ∀ R : VK, (∀ H2, Same H' H2 → R (v x) H2) → te ((wipe σ vs).set j (some x)) H' R)
    (k : ∀ D H', H D = none → Same H H' → H' D = some (.lst ((xs.filter f).map v)) → Q (.ref D) H') : tLc (iList K tl) (gName j) tt te vs σ H Q := by
  refine htl _ fun a H1 e1 hs => ⟨a, rfl, ⟨xs, hs⟩, fun D hD => ?_⟩
  have key : ∀ i x H', xs[i]? = some x → (Same H1 H' ∧ H' D = some (.lst (((xs.take i).filter f).map v))) → gName j x (wipe σ vs) H' fun σ2 H2 => wipe σ2 vs = wipe σ vs ∧ tt σ2 H2 fun b H3 =>
      if b = true then te σ2 H3 fun y H4 => ∃ acc, H4 D = some (.lst acc) ∧ acc.length < sizeLine ∧ (Same H1 (upd H4 D (.lst (acc ++ [y]))) ∧ (upd H4 D (.lst (acc ++ [y]))) D = some (.lst (((xs.take (i + 1)).filter f).map v)))
      else (Same H1 H3 ∧ H3 D = some (.lst (((xs.take (i + 1)).filter f).map v))) := fun i x H' hi p =>
    ⟨hw x, lc_one (N := fun H' => Same H1 H' ∧ H' D = some (.lst (((xs.take (i + 1)).filter f).map v))) (f := f) (v := v) (x := x) hD (Nat.le_trans (take_len f v i) hz) p (ht x (List.mem_of_getElem? hi) H' (e1.trans p.1))
      (fun hf H2 e2 => he x (List.mem_of_getElem? hi) hf H2 (e1.trans e2)) fun H2 s2 d2 => ⟨s2, by rw [d2, take_one f v hi]⟩⟩
  refine lc_list (xs := xs) (fun i H' => Same H1 H' ∧ H' D = some (.lst (((xs.take i).filter f).map v))) ⟨same_new hD, ?_⟩ (fun i H' _ p => p.1.seq hs) key fun H' p => k D H' (e1.free hD) (e1.trans p.1) ?_
  · exact upd_same
  · have q := p.2
    rw [List.take_length] at q
    exact q
theorem tlc_T (f : V → Bool) (v : V → V) (htl : ∀ R : VK, (∀ a H1, Same H H1 → SqT K H1 a xs → R (.ref a) H1) → tl σ H R) (hz : xs.length ≤ 100000) (hw : ∀ x, wipe ((wipe σ vs).set j (some x)) vs = wipe σ vs)
    (ht : ∀ x ∈ xs, ∀ H', Same H H' → ∀ R : Bool → Hp → Prop, (∀ H2, Same H' H2 → R (f x) H2) → tt ((wipe σ vs).set j (some x)) H' R)
    (he : ∀ x ∈ xs, f x = true → ∀ H', Same H H' → ∀ R : VK, (∀ H2, Same H' H2 → R (v x) H2) → te ((wipe σ vs).set j (some x)) H' R)
    (k : ∀ D H', H D = none → Same H H' → H' D = some (.lst ((xs.filter f).map v)) → Q (.ref D) H') : tLc (iTup K tl) (gName j) tt te vs σ H Q := by
  refine htl _ fun a H1 e1 hs => ⟨a, rfl, ⟨xs, hs⟩, fun D hD => ?_⟩
  have key : ∀ i x H', xs[i]? = some x → (Same H1 H' ∧ H' D = some (.lst (((xs.take i).filter f).map v))) → gName j x (wipe σ vs) H' fun σ2 H2 => wipe σ2 vs = wipe σ vs ∧ tt σ2 H2 fun b H3 =>
      if b = true then te σ2 H3 fun y H4 => ∃ acc, H4 D = some (.lst acc) ∧ acc.length < sizeLine ∧ (Same H1 (upd H4 D (.lst (acc ++ [y]))) ∧ (upd H4 D (.lst (acc ++ [y]))) D = some (.lst (((xs.take (i + 1)).filter f).map v)))
      else (Same H1 H3 ∧ H3 D = some (.lst (((xs.take (i + 1)).filter f).map v))) := fun i x H' hi p =>
    ⟨hw x, lc_one (N := fun H' => Same H1 H' ∧ H' D = some (.lst (((xs.take (i + 1)).filter f).map v))) (f := f) (v := v) (x := x) hD (Nat.le_trans (take_len f v i) hz) p (ht x (List.mem_of_getElem? hi) H' (e1.trans p.1))
      (fun hf H2 e2 => he x (List.mem_of_getElem? hi) hf H2 (e1.trans e2)) fun H2 s2 d2 => ⟨s2, by rw [d2, take_one f v hi]⟩⟩
  refine lc_tup (xs := xs) (fun i H' => Same H1 H' ∧ H' D = some (.lst (((xs.take i).filter f).map v))) ⟨same_new hD, ?_⟩ (fun i H' _ p => same_tup p.1 hs) key fun H' p => k D H' (e1.free hD) (e1.trans p.1) ?_
  · exact upd_same
  · have q := p.2
    rw [List.take_length] at q
    exact q
theorem rg_at {n i : Nat} (h : i < n) : ((List.range n).map fun m : Nat => V.int (m : Int))[i]? = some (V.int (i : Int)) := by
  rw [List.getElem?_map, List.getElem?_range h]
  rfl
theorem tlc_R (f : V → Bool) (v : V → V) (n : Int) (hta : ∀ R : List V → Hp → Prop, (∀ H1, Same H H1 → R [.int n] H1) → ta σ H R) (hz : n ≤ 100000) (hw : ∀ x, wipe ((wipe σ vs).set j (some x)) vs = wipe σ vs)
    (ht : ∀ m : Nat, (m : Int) < n → ∀ H', Same H H' → ∀ R : Bool → Hp → Prop, (∀ H2, Same H' H2 → R (f (.int m)) H2) → tt ((wipe σ vs).set j (some (.int m))) H' R)
    (he : ∀ m : Nat, (m : Int) < n → f (.int m) = true → ∀ H', Same H H' → ∀ R : VK, (∀ H2, Same H' H2 → R (v (.int m)) H2) → te ((wipe σ vs).set j (some (.int m))) H' R) (hlo : -100000 ≤ n)
    (k : ∀ D H', H D = none → Same H H' → H' D = some (.lst ((((List.range n.toNat).map fun m : Nat => V.int (m : Int)).filter f).map v)) → Q (.ref D) H') : tLc (iRng1 ta) (gName j) tt te vs σ H Q := by
  refine hta _ fun H1 e1 => ⟨n, rfl, by omega, by omega, fun D hD => ?_⟩
  have key : ∀ i H', i < n.toNat → (Same H1 H' ∧ H' D = some (.lst (((((List.range n.toNat).map fun m : Nat => V.int (m : Int)).take i).filter f).map v))) → gName j (.int ((0 : Int) + (i : Int))) (wipe σ vs) H' fun σ2 H2 => wipe σ2 vs = wipe σ vs ∧ tt σ2 H2 fun b H3 =>
      if b = true then te σ2 H3 fun y H4 => ∃ acc, H4 D = some (.lst acc) ∧ acc.length < sizeLine ∧ (Same H1 (upd H4 D (.lst (acc ++ [y]))) ∧ (upd H4 D (.lst (acc ++ [y]))) D = some (.lst (((((List.range n.toNat).map fun m : Nat => V.int (m : Int)).take (i + 1)).filter f).map v)))
      else (Same H1 H3 ∧ H3 D = some (.lst (((((List.range n.toNat).map fun m : Nat => V.int (m : Int)).take (i + 1)).filter f).map v))) := fun i H' hi p => by
    have e0 : (0 : Int) + (i : Int) = (i : Int) := Int.zero_add _
    rw [e0]
    have hin : (i : Int) < n := by omega
    have hl := take_len (xs := (List.range n.toNat).map fun m : Nat => V.int (m : Int)) f v i
    have hl2 : ((List.range n.toNat).map fun m : Nat => V.int (m : Int)).length = n.toNat := by simp
    exact ⟨hw _, lc_one (N := fun H' => Same H1 H' ∧ H' D = some (.lst (((((List.range n.toNat).map fun m : Nat => V.int (m : Int)).take (i + 1)).filter f).map v))) (f := f) (v := v) (x := .int i) hD (by omega) p (ht i hin H' (e1.trans p.1))
      (fun hf H2 e2 => he i hin hf H2 (e1.trans e2)) fun H2 s2 d2 => ⟨s2, by rw [d2, take_one f v (rg_at hi)]⟩⟩
  refine lc_range (lo := 0) (n := n.toNat) (fun i H' => Same H1 H' ∧ H' D = some (.lst (((((List.range n.toNat).map fun m : Nat => V.int (m : Int)).take i).filter f).map v))) ⟨same_new hD, ?_⟩ key fun H' p => k D H' (e1.free hD) (e1.trans p.1) ?_
  · exact upd_same
  · have q := p.2
    rw [List.take_of_length_le (by simp)] at q
    exact q
end
section
variable {K : PySem.W.Frag} {σ : L2.St} {H : Hp} {te ta : TE} {tt : TT} {U : TS} {D : Ends}
/-- if t: l.append(e), told by the truth of t -/
theorem q_ifapp {l : Addr} {zs : List V} {v : V} (b : Bool) (ht : ∀ R : Bool → Hp → Prop, (∀ H2, Same H H2 → R b H2) → tt σ H R) (hl : H l = some (.lst zs)) (hz : zs.length ≤ 100000) (ha : ∀ (H : Hp) (R : VK), R (.ref l) H → ta σ H R) (he : ∀ (H : Hp) (R : VK), R v H → te σ H R)
    (k : ∀ H', (∀ c o, c ≠ l → H c = some o → H' c = some o) → H' l = some (.lst (zs ++ if b = true then [v] else [])) → U D σ H') : tSeq (tIfS tt (tDrop (tBM K "list" rAppend ta (tCons te tNil))) tNext) U D σ H := by
  refine ht _ fun H2 s2 => ?_
  cases b with
  | true =>
    refine iteT (ha H2 _ ⟨.inl ⟨rfl, _, sqL_of (s2 _ _ hl)⟩, he _ _ ⟨l, _, _, rfl, rfl, s2 _ _ hl, Nat.lt_of_le_of_lt hz (by decide), k _ (fun c o hc e => ?_) upd_same⟩⟩)
    rw [upd_ne hc]
    exact s2 _ _ e
  | false =>
    refine iteF (k H2 (fun c o _ e => s2 _ _ e) ?_)
    show H2 l = some (.lst (zs ++ []))
    rw [List.append_nil]
    exact s2 _ _ hl
end
section
variable {σ : L2.St} {H : Hp} {te : TE} {U : TS} {D : Ends}
/-- x = e, then the rest -/
theorem q_asgX {i : Nat} (h : te σ H fun x H1 => U D (σ.set i (some x)) H1) : tSeq (tAsg te (gName i)) U D σ H := h
/-- x = e, e some int -/
theorem q_asgI {i : Nat} (h : ∀ R : VK, (∀ z : Int, R (.int z) H) → te σ H R) (k : ∀ z : Int, U D (σ.set i (some (.int z))) H) : tSeq (tAsg te (gName i)) U D σ H := h _ k
end
section
variable {K : PySem.W.Frag} {σ : L2.St} {H : Hp} {X : TE} {r : List V → Hp → VK → Prop} {g : TG} {tb U : TS} {D : Ends}
/-- a test by a call of one argument, a for over such a call: the argument first -/
theorem pl_b1 {R : Bool → Hp → Prop} (h : X σ H fun v H1 => r [v] H1 fun x H2 => ∃ c, x = .bl c ∧ R c H2) : tB (tCB r (tCons X tNil)) σ H R := h
theorem pl_r1 {r : List V → Hp → VK → Prop} (h : X σ H fun v H1 => r [v] H1 D.rt) : tRet (tCB r (tCons X tNil)) D σ H := h
theorem pl_forL1 (h : X σ H fun v H1 => r [v] H1 fun x H2 => ∃ a, x = .ref a ∧ (∃ xs, SqL K H2 a xs) ∧ tFor (fun _ H R => R (Itl K a) H) g tb { D with nx := U D } σ H2) : tSeq (tFor (iList K (tCB r (tCons X tNil))) g tb) U D σ H := h
end
/-! ### == of lists of flat values -/
def okV : V → Bool
  | .non => true
  | .bl _ => true
  | .int _ => true
  | .str x => PyData.canLay0 (.str x)
  | _ => false
def dtV : V → PyData
  | .bl b => .bool b
  | .int i => .int i
  | .str x => .str x
  | _ => .none
theorem dp_ok {K : PySem.W.Frag} {H : Hp} : ∀ {x : V}, okV x = true → Dp K H x (dtV x)
  | .non, _ => .non
  | .bl b, _ => .bl b
  | .int i, _ => .int i
  | .str x, _ => .str x
  | .byt _, h => by cases h
  | .flt _, h => by cases h
  | .ref _, h => by cases h
  | .ty _, h => by cases h
theorem dps_ok {K : PySem.W.Frag} {H : Hp} : ∀ {xs : List V}, xs.all okV = true → DpAll K H xs (xs.map dtV)
  | [], _ => .nil
  | x :: r, h => by
    rw [List.all_cons, Bool.and_eq_true] at h
    exact .cons (dp_ok h.1) (dps_ok h.2)
theorem lay_ok : ∀ {x : V}, okV x = true → PyData.canLay0 (dtV x) = true ∧ PyData.depth (dtV x) = 0
  | .non, _ => ⟨rfl, rfl⟩
  | .bl b, _ => ⟨rfl, rfl⟩
  | .int i, _ => ⟨rfl, rfl⟩
  | .str x, h => ⟨h, rfl⟩
  | .byt _, h => by cases h
  | .flt _, h => by cases h
  | .ref _, h => by cases h
  | .ty _, h => by cases h
theorem lays_ok : ∀ {xs : List V}, xs.all okV = true → PyData.canLayAll0 (xs.map dtV) = true ∧ PyData.depthAll (xs.map dtV) = 0
  | [], _ => ⟨rfl, rfl⟩
  | x :: r, h => by
    rw [List.all_cons, Bool.and_eq_true] at h
    obtain ⟨h1, h2⟩ := lay_ok h.1
    obtain ⟨h3, h4⟩ := lays_ok h.2
    constructor
    · show (PyData.canLay0 (dtV x) && PyData.canLayAll0 (r.map dtV)) = true
      rw [h1, h3]
      rfl
    · show max (PyData.depth (dtV x)) (PyData.depthAll (r.map dtV)) = 0
      rw [h2, h4]
      rfl
theorem shaped_ok {xs : List V} (h : xs.all okV = true) : SeqAt.shaped (.list (xs.map dtV)) = true := by
  obtain ⟨h1, h2⟩ := lays_ok h
  unfold SeqAt.shaped
  rw [Bool.and_eq_true]
  refine ⟨h1, decide_eq_true ?_⟩
  show PyData.depthAll (xs.map dtV) + 1 ≤ 64
  rw [h2]
  decide
theorem eqv_ok : ∀ {x : V}, okV x = true → PyData.eqv (dtV x) (dtV x) = true
  | .non, _ => rfl
  | .bl b, _ => by simp [dtV, PyData.eqv]
  | .int i, _ => by simp [dtV, PyData.eqv]
  | .str x, _ => by simp [dtV, PyData.eqv]
  | .byt _, h => by cases h
  | .flt _, h => by cases h
  | .ref _, h => by cases h
  | .ty _, h => by cases h
theorem eqvs_ok : ∀ {xs : List V}, xs.all okV = true → PyData.eqvAll (xs.map dtV) (xs.map dtV) = true
  | [], _ => rfl
  | x :: r, h => by
    rw [List.all_cons, Bool.and_eq_true] at h
    show (PyData.eqv (dtV x) (dtV x) && PyData.eqvAll (r.map dtV) (r.map dtV)) = true
    rw [eqv_ok h.1, eqvs_ok h.2]
    rfl
theorem ne_lists {K : PySem.W.Frag} {H : Hp} {p q : Addr} {xs : List V} {Q : VK} (hp : SqL K H p xs) (hq : SqL K H q xs) (hf : xs.all okV = true) (k : Q (.bl false) H) : rNeD K (.ref p) (.ref q) H Q := by
  refine ⟨.list (xs.map dtV), .list (xs.map dtV), .lst hp (dps_ok hf), .lst hq (dps_ok hf), shaped_ok hf, shaped_ok hf, ?_⟩
  have e : PyData.eqv (.list (xs.map dtV)) (.list (xs.map dtV)) = true := eqvs_ok hf
  rw [e]
  exact k
/-- a value of a built-in type that is no object -/
theorem ty_ok {K : PySem.W.Frag} {H : Hp} : ∀ {x : V}, okV x = true → ∃ t, TyX K H x (.type t)
  | .non, _ => ⟨_, .base .non⟩
  | .bl b, _ => ⟨_, .base (.bl b)⟩
  | .int i, _ => ⟨_, .base (.int i)⟩
  | .str x, _ => ⟨_, .base (.str x)⟩
  | .byt _, h => by cases h
  | .flt _, h => by cases h
  | .ref _, h => by cases h
  | .ty _, h => by cases h
theorem tys_ok {K : PySem.W.Frag} : ∀ {x : V}, okV x = true → ∃ t, ∀ H : Hp, TyX K H x (.type t)
  | .non, _ => ⟨_, fun _ => .base .non⟩
  | .bl b, _ => ⟨_, fun _ => .base (.bl b)⟩
  | .int i, _ => ⟨_, fun _ => .base (.int i)⟩
  | .str x, _ => ⟨_, fun _ => .base (.str x)⟩
  | .byt _, h => by cases h
  | .flt _, h => by cases h
  | .ref _, h => by cases h
  | .ty _, h => by cases h
section
variable {K : PySem.W.Frag} {σ : L2.St} {H : Hp} {tl te : TE} {j : Nat} {vs : List Nat} {Q : VK}
/-- [e for c in a text] -/
theorem tlc_S (v : Nat → V) (z : Str) (htl : ∀ R : VK, R (.str z) H → tl σ H R) (hz : z.cps.size ≤ 100000) (hw : ∀ x, wipe ((wipe σ vs).set j (some x)) vs = wipe σ vs)
    (he : ∀ c ∈ z.cps.toList, ∀ H', Same H H' → ∀ R : VK, (∀ H2, Same H' H2 → R (v c) H2) → te ((wipe σ vs).set j (some (.str ⟨#[c]⟩))) H' R)
    (k : ∀ D H', H D = none → Same H H' → H' D = some (.lst (z.cps.toList.map v)) → Q (.ref D) H') : tLc (iStr tl) (gName j) tYes te vs σ H Q := by
  refine htl _ ⟨z, rfl, fun D hD => ?_⟩
  refine lc_it walk_str (fun i H' => Same H H' ∧ H' D = some (.lst ((z.cps.toList.take i).map v))) ⟨same_new hD, upd_same⟩ (fun _ _ _ _ => trivial) ?_ fun H' p => k D H' hD p.1 ?_
  · rintro i x H' H2 hi p ⟨rfl, c, hc, rfl⟩
    have hc2 : z.cps.toList[i]? = some c := by rw [Array.getElem?_toList]; exact hc
    have hm : c ∈ z.cps.toList := List.mem_of_getElem? hc2
    refine ⟨hw _, he c hm _ p.1 _ fun H3 s3 => ⟨_, s3 _ _ p.2, ?_, same_mut (p.1.trans s3) hD, ?_⟩⟩
    · rw [List.length_map, List.length_take]
      have e : sizeLine = 16777216 := by decide
      omega
    · rw [upd_same, List.take_add_one, hc2, List.map_append]
      rfl
  · have q := p.2
    rw [List.take_of_length_le (by simp)] at q
    exact q
end
/-- None and the ints from 0 to g -/
def valsTo (g : Int) : List V := .non :: rgV 0 (g + 1)
/-- all that is no list is as it was -/
def KeepNL (H H' : Hp) : Prop := ∀ b o, (∀ zs, o ≠ HO.lst zs) → H b = some o → H' b = some o
theorem KeepNL.of {H H' : Hp} (s : Same H H') : KeepNL H H' := fun b o _ e => s b o e
theorem KeepNL.lst {H : Hp} {D : Addr} {zs ys : List V} (h : H D = some (.lst zs)) : KeepNL H (upd H D (.lst ys)) := fun b o n e => by
  rw [upd_ne (fun q => by rw [q, h] at e; exact n zs (Option.some.inj e).symm)]
  exact e
section
variable {K : PySem.W.Frag} {σ : L2.St} {H : Hp} {tl te : TE} {j : Nat} {vs : List Nat} {Q : VK} {xs : List V}
/-- [e for x in xs], e making new objects (no lists among what is told of them) -/
theorem tlc_G (Rl : Nat → V → Hp → Prop) (mono : ∀ i y H H', KeepNL H H' → Rl i y H → Rl i y H') (htl : ∀ R : VK, (∀ a H1, Same H H1 → SqL K H1 a xs → R (.ref a) H1) → tl σ H R) (hz : xs.length ≤ 100000) (hw : ∀ x, wipe ((wipe σ vs).set j (some x)) vs = wipe σ vs)
    (he : ∀ i x, xs[i]? = some x → ∀ H', Same H H' → ∀ R : VK, (∀ y H2, Same H' H2 → Rl i y H2 → R y H2) → te ((wipe σ vs).set j (some x)) H' R)
    (k : ∀ D ys H', H D = none → Same H H' → H' D = some (.lst ys) → ys.length = xs.length → (∀ i y, ys[i]? = some y → Rl i y H') → Q (.ref D) H') : tLc (iList K tl) (gName j) tYes te vs σ H Q := by
  refine htl _ fun a H1 e1 hs => ⟨a, rfl, ⟨xs, hs⟩, fun D hD => ?_⟩
  refine lc_list (xs := xs) (fun i H' => Same H1 H' ∧ ∃ ys, H' D = some (.lst ys) ∧ ys.length = i ∧ ∀ m y, ys[m]? = some y → Rl m y H') ⟨same_new hD, [], upd_same, rfl, fun m y h => by simp at h⟩ (fun i H' _ p => p.1.seq hs) ?_ ?_
  · rintro i x H' hx ⟨s', ys, hys, hl, hr⟩
    have hi : i < xs.length := (List.getElem?_eq_some_iff.mp hx).1
    refine ⟨hw x, he i x hx H' (e1.trans s') _ fun y H2 s2 hy => ⟨ys, s2 _ _ hys, ?_, same_mut (s'.trans s2) hD, ys ++ [y], upd_same, by rw [List.length_append, hl]; rfl, fun m z hm => ?_⟩⟩
    · have e : sizeLine = 16777216 := by decide
      omega
    · have kp : KeepNL H2 (upd H2 D (.lst (ys ++ [y]))) := KeepNL.lst (s2 _ _ hys)
      by_cases hm2 : m < ys.length
      · rw [List.getElem?_append_left hm2] at hm
        exact mono m z _ _ kp (mono m z _ _ (KeepNL.of s2) (hr m z hm))
      · have hm3 : m = ys.length := by
          have h := (List.getElem?_eq_some_iff.mp hm).1
          rw [List.length_append] at h
          have : [y].length = 1 := rfl
          omega
        subst hm3
        rw [List.getElem?_append_right (Nat.le_refl _), Nat.sub_self] at hm
        obtain rfl : y = z := Option.some.inj hm
        rw [hl]
        exact mono i y _ _ kp hy
  · rintro H' ⟨s', ys, hys, hl, hr⟩
    exact k D ys H' (e1.free hD) (e1.trans s') hys hl hr
end
end Evl2
/-! ### own methods called by the language: len(x), v in x, x == y, of instances with a __dict__ -/
namespace Evl2
open PySem PySem.Spec PyProof.Rows L2
section
variable {X : Cx} {CX : CXT} {k : Nat} {f C : Addr} {fd : FuncData} {ps : List Str} {sp : Sp} {E : XK}
/-- an own function called at a place below the running body -/
theorem runA {A : Around} {pins : List (Addr × Obj)} {σ : L2.St} {H : Hp} {s : Shared} {Q : VK} {us : List Value} {vs : List V} (F : FnOk X.prog X.w X.K X.mg X.base CX k f fd ps sp) (hr : Room k A) (e0 : Env0 X.prog X.w X.K X.mg X.base A X.stack s H) (hb : Binds X.K fd ps []) (hx : Passes CX X E)
    (I : Inv X pins σ H s) (r : Vals vs us) (h : sp vs H Q E) : wpAny (model X.prog X.w) A (call (.ref f) us) (EP X pins σ Q) X.xe s := by
  have hl : us.length = ps.length := by rw [← r.length]; exact F.len _ _ _ _ h
  refine wpAny_call (codeAny_mono (F.run A X.stack s H ⟨us, []⟩ us vs Q E hr e0 (by
    have := hb s us I.kIn (by simpa using hl)
    simpa using this) r h) fun r s' hq => ?_)
  cases r with
  | error e => exact hx pins σ H s e s' I hq
  | ok fl =>
    cases fl with
    | ret u => exact I.after hq
    | next => exact False.elim hq
    | brk => exact False.elim hq
    | cont => exact False.elim hq
def rLenOwn (C : Addr) (sp : Sp) (E : XK) : List V → Hp → VK → Prop := fun xs H Q => ∃ a dx fs, xs = [V.ref a] ∧ H a = some (.ins C dx fs) ∧ sp [.ref a] H (fun z H' => ∃ i : Int, z = .int i ∧ (0 ≤ i ∧ i < 2 ^ 63) ∧ Q (.int i) H') E
/-- len(x), x with an own __len__ -/
theorem call_lenOwn (F : FnOk X.prog X.w X.K X.mg X.base CX k f fd ps sp) (hm : Meth X.K C "__len__" f) (hr : Room (k + 1) X.A) (hb : Binds X.K fd ps []) (hx : Passes CX X E) : CallR X (.builtin "len") (rLenOwn C sp E) := by
  intro pins s σ H xs us Q I r h
  obtain ⟨a, dx, fs, rfl, ha, q⟩ := h
  obtain ⟨u, rfl, ru⟩ := r.one
  cases (show u = Value.ref a from ru)
  obtain ⟨mA, J, _⟩ := ins_get I.hok ha
  obtain ⟨od, J, _⟩ := J.look
  obtain ⟨m, hF⟩ := I.fr
  refine PySem.W.len_K hF I.ok.mod.kin J hm.at_ hm.fn ?_
  refine wpAny_mono (runA (us := [.ref a]) (vs := [.ref a]) F hr.in1 I.env0.in1 hb hx I (.cons rfl .nil) q) (fun v s' z => ?_) fun _ _ e => e
  obtain ⟨z', H', I', rz, i, ei, hi, qz⟩ := z
  subst ei
  obtain ⟨t, e⟩ := (show ∃ t, v = Value.int i t from rz)
  cases e
  exact ⟨hi, .int i, H', I'.tok _, ⟨_, rfl⟩, qz⟩
def rInOwn (C : Addr) (sp : Sp) (E : XK) : R2 := fun x y H Q => ∃ a dx fs, y = .ref a ∧ H a = some (.ins C dx fs) ∧ sp [y, x] H (fun z H' => ∃ b, z = .bl b ∧ Q (.bl b) H') E
/-- v in x, x with an own __contains__ that answers a Bool -/
theorem op_inOwn (F : FnOk X.prog X.w X.K X.mg X.base CX k f fd ps sp) (hm : Meth X.K C "__contains__" f) (hr : Room k X.A) (hb : Binds X.K fd ps []) (hx : Passes CX X E) : OpR X (compareOp .In) (rInOwn C sp E) := by
  intro pins s σ H x y v u Q I rx ry h
  obtain ⟨a, dx, fs, rfl, ha, q⟩ := h
  cases (show u = Value.ref a from ry)
  obtain ⟨mA, J, _⟩ := ins_get I.hok ha
  obtain ⟨od, J, _⟩ := J.look
  obtain ⟨m, hF⟩ := I.fr
  refine PySem.W.in_K hF I.ok.mod.kin J hm.at_ hm.fn ?_
  refine wpAny_mono (runA (us := [.ref a, v]) (vs := [.ref a, x]) F hr I.env0 hb hx I (.cons rfl (.cons rx .nil)) q) (fun r s' z => ?_) fun _ _ e => e
  obtain ⟨z', H', I', rz, b, eb, qz⟩ := z
  subst eb
  cases (show r = Value.bool b from rz)
  exact wpAny_truthy_bool ⟨.bl b, H', I', rfl, qz⟩
def rEqOwn (C : Addr) (sp : Sp) (E : XK) : R2 := fun x y H Q => ∃ a dx fs b dy gs, x = .ref a ∧ y = .ref b ∧ H a = some (.ins C dx fs) ∧ H b = some (.ins C dy gs) ∧ sp [x, y] H (fun z H' => ∃ c, z = .bl c ∧ Q (.bl c) H') E
/-- x == y, both of a class with an own __eq__ that answers a Bool -/
theorem op_eqOwn (F : FnOk X.prog X.w X.K X.mg X.base CX k f fd ps sp) (hm : Meth X.K C "__eq__" f) (hr : Room k X.A) (hb : Binds X.K fd ps []) (hx : Passes CX X E) : OpR X (compareOp .Eq) (rEqOwn C sp E) := by
  intro pins s σ H x y v u Q I rx ry h
  obtain ⟨a, dx, fs, b, dy, gs, rfl, rfl, ha, hb', q⟩ := h
  cases (show v = Value.ref a from rx)
  cases (show u = Value.ref b from ry)
  obtain ⟨mA, J, _⟩ := ins_get I.hok ha
  obtain ⟨od, J, _⟩ := J.look
  obtain ⟨mB, J', _⟩ := ins_get I.hok hb'
  obtain ⟨od', J', _⟩ := J'.look
  obtain ⟨m, hF⟩ := I.fr
  show wpAny (model X.prog X.w) X.A (richCompare .Eq (.ref a) (.ref b)) (EP X pins σ Q) X.xe s
  refine PySem.W.cmp_K (op := .Eq) (tb := .ref C) hr.units0 hF I.ok.mod.kin J J'.type (by simp [PySem.W.notFirst]) hm.at_ hm.fn ?_
  refine wpAny_mono (runA (us := [.ref a, .ref b]) (vs := [.ref a, .ref b]) F hr I.env0 hb hx I (.cons rfl (.cons rfl .nil)) q) (fun r s' z => ?_) fun _ _ e => e
  obtain ⟨z', H', I', rz, c, ec, qz⟩ := z
  subst ec
  cases (show r = Value.bool c from rz)
  exact ⟨.bl c, H', I', rfl, qz⟩
end
end Evl2
/-! ### comprehensions over enumerate -/
namespace Evl2
open PySem PySem.Spec PyProof.Rows L2
section
variable {K : PySem.W.Frag} {σ : L2.St} {H : Hp} {ta : TA} {te : TE} {j1 j2 : Nat} {vs : List Nat} {Q : VK} {xs : List V}
/-- [e for i, x in enumerate(xs)], e making new objects (no lists among what is told of them) -/
theorem tlc_GE (Rl : Nat → V → Hp → Prop) (mono : ∀ i y H H', KeepNL H H' → Rl i y H → Rl i y H') (hta : ∀ R : List V → Hp → Prop, (∀ a H1, Same H H1 → SqL K H1 a xs → R [.ref a] H1) → ta σ H R) (hz : xs.length ≤ 100000) (hw : ∀ x y, wipe (((wipe σ vs).set j1 (some x)).set j2 (some y)) vs = wipe σ vs)
    (he : ∀ i x, xs[i]? = some x → ∀ H', Same H H' → ∀ R : VK, (∀ y H2, Same H' H2 → Rl i y H2 → R y H2) → te (((wipe σ vs).set j1 (some (.int (i : Nat)))).set j2 (some x)) H' R)
    (k : ∀ D ys H', H D = none → Same H H' → H' D = some (.lst ys) → ys.length = xs.length → (∀ i y, ys[i]? = some y → Rl i y H') → Q (.ref D) H') : tLc (iEnum K ta) (gTup K 2 (gCons (gName j1) (gCons (gName j2) gNil))) tYes te vs σ H Q := by
  refine hta _ fun a H1 e1 hs => ⟨a, xs, rfl, hs, fun D hD => ?_⟩
  refine lc_it walk_enum (fun i H' => Same H1 H' ∧ ∃ ys, H' D = some (.lst ys) ∧ ys.length = i ∧ ∀ m y, ys[m]? = some y → Rl m y H') ⟨same_new hD, [], upd_same, rfl, fun m y h => by simp at h⟩ (fun i H' _ p => p.1.seq hs) ?_ ?_
  · rintro i v H2 H3 hi ⟨s', ys, hys, hl, hr⟩ ⟨T, x', y', rfl, nT, rfl, ex, ey⟩
    obtain rfl := Option.some.inj ex
    have ey : xs[i]? = some y' := ey
    have st : Same H2 (upd H2 T (.tup [.int (i : Nat), y'])) := same_new nT
    refine ⟨T, _, rfl, sqT_of upd_same, rfl, _, _, rfl, _, _, rfl, rfl, hw _ _, he i y' ey _ (e1.trans (s'.trans st)) _ fun y H4 s2 hy => ⟨ys, s2 _ _ (st _ _ hys), ?_, same_mut (s'.trans (st.trans s2)) hD, ys ++ [y], upd_same, by rw [List.length_append, hl]; rfl, fun m z hm => ?_⟩⟩
    · have e : sizeLine = 16777216 := by decide
      omega
    · have kp : KeepNL H4 (upd H4 D (.lst (ys ++ [y]))) := KeepNL.lst (s2 _ _ (st _ _ hys))
      by_cases hm2 : m < ys.length
      · rw [List.getElem?_append_left hm2] at hm
        exact mono m z _ _ kp (mono m z _ _ (KeepNL.of (st.trans s2)) (hr m z hm))
      · have hm3 : m = ys.length := by
          have h := (List.getElem?_eq_some_iff.mp hm).1
          rw [List.length_append] at h
          have : [y].length = 1 := rfl
          omega
        subst hm3
        rw [List.getElem?_append_right (Nat.le_refl _), Nat.sub_self] at hm
        obtain rfl : y = z := Option.some.inj hm
        rw [hl]
        exact mono i y _ _ kp hy
  · rintro H' ⟨s', ys, hys, hl, hr⟩
    exact k D ys H' (e1.free hD) (e1.trans s') hys hl hr
end
end Evl2

namespace ER
open PySem PySem.Spec PyProof.Rows L2 Evl2
def top (i : Nat) : Stmt := PySem.Challenge.pw_editionrows_k06_whole_histories.main.body.getD i (.Pass ⟨0, 0, 0, 0⟩)
abbrev s__wall : Stmt := top 0
theorem sc__wall : FnScope ["k"] ["k"] (defScope s__wall) := ⟨rfl, rfl, rfl, by decide +kernel, rfl, by decide +kernel, by decide +kernel⟩
def d__wall : He.DefD := ⟨("_wall", none), "_wall", "_wall", defArgs s__wall, defBody s__wall, defScope s__wall, [], []⟩
abbrev s_BadColumn___init__ : Stmt := inClass (top 3) 0
theorem sc_BadColumn___init__ : FnScope ["self", "index"] ["self", "index"] (defScope s_BadColumn___init__) := ⟨rfl, rfl, rfl, by decide +kernel, rfl, by decide +kernel, by decide +kernel⟩
def d_BadColumn___init__ : He.DefD := ⟨("BadColumn", some "__init__"), "__init__", "BadColumn.__init__", defArgs s_BadColumn___init__, defBody s_BadColumn___init__, defScope s_BadColumn___init__, [], []⟩
abbrev s_BadPart___init__ : Stmt := inClass (top 4) 0
theorem sc_BadPart___init__ : FnScope ["self", "part"] ["self", "part"] (defScope s_BadPart___init__) := ⟨rfl, rfl, rfl, by decide +kernel, rfl, by decide +kernel, by decide +kernel⟩
def d_BadPart___init__ : He.DefD := ⟨("BadPart", some "__init__"), "__init__", "BadPart.__init__", defArgs s_BadPart___init__, defBody s_BadPart___init__, defScope s_BadPart___init__, [], []⟩
abbrev s_BadChange___init__ : Stmt := inClass (top 5) 0
theorem sc_BadChange___init__ : FnScope ["self", "index"] ["self", "index"] (defScope s_BadChange___init__) := ⟨rfl, rfl, rfl, by decide +kernel, rfl, by decide +kernel, by decide +kernel⟩
def d_BadChange___init__ : He.DefD := ⟨("BadChange", some "__init__"), "__init__", "BadChange.__init__", defArgs s_BadChange___init__, defBody s_BadChange___init__, defScope s_BadChange___init__, [], []⟩
abbrev s_BadEdition___init__ : Stmt := inClass (top 6) 0
theorem sc_BadEdition___init__ : FnScope ["self", "edition"] ["self", "edition"] (defScope s_BadEdition___init__) := ⟨rfl, rfl, rfl, by decide +kernel, rfl, by decide +kernel, by decide +kernel⟩
def d_BadEdition___init__ : He.DefD := ⟨("BadEdition", some "__init__"), "__init__", "BadEdition.__init__", defArgs s_BadEdition___init__, defBody s_BadEdition___init__, defScope s_BadEdition___init__, [], []⟩
abbrev s_UnknownName___init__ : Stmt := inClass (top 7) 0
theorem sc_UnknownName___init__ : FnScope ["self", "name"] ["self", "name"] (defScope s_UnknownName___init__) := ⟨rfl, rfl, rfl, by decide +kernel, rfl, by decide +kernel, by decide +kernel⟩
def d_UnknownName___init__ : He.DefD := ⟨("UnknownName", some "__init__"), "__init__", "UnknownName.__init__", defArgs s_UnknownName___init__, defBody s_UnknownName___init__, defScope s_UnknownName___init__, [], []⟩
abbrev s_TooMany___init__ : Stmt := inClass (top 8) 0
theorem sc_TooMany___init__ : FnScope ["self", "limit"] ["self", "limit"] (defScope s_TooMany___init__) := ⟨rfl, rfl, rfl, by decide +kernel, rfl, by decide +kernel, by decide +kernel⟩
def d_TooMany___init__ : He.DefD := ⟨("TooMany", some "__init__"), "__init__", "TooMany.__init__", defArgs s_TooMany___init__, defBody s_TooMany___init__, defScope s_TooMany___init__, [], []⟩
abbrev s_is_whole : Stmt := top 14
theorem sc_is_whole : FnScope ["value"] ["value"] (defScope s_is_whole) := ⟨rfl, rfl, rfl, by decide +kernel, rfl, by decide +kernel, by decide +kernel⟩
def d_is_whole : He.DefD := ⟨("is_whole", none), "is_whole", "is_whole", defArgs s_is_whole, defBody s_is_whole, defScope s_is_whole, [], []⟩
abbrev s_is_list : Stmt := top 15
theorem sc_is_list : FnScope ["value"] ["value"] (defScope s_is_list) := ⟨rfl, rfl, rfl, by decide +kernel, rfl, by decide +kernel, by decide +kernel⟩
def d_is_list : He.DefD := ⟨("is_list", none), "is_list", "is_list", defArgs s_is_list, defBody s_is_list, defScope s_is_list, [], []⟩
abbrev s_is_word : Stmt := top 16
theorem sc_is_word : FnScope ["value", "words"] ["value", "words"] (defScope s_is_word) := ⟨rfl, rfl, rfl, by decide +kernel, rfl, by decide +kernel, by decide +kernel⟩
def d_is_word : He.DefD := ⟨("is_word", none), "is_word", "is_word", defArgs s_is_word, defBody s_is_word, defScope s_is_word, [], []⟩
abbrev s_is_name : Stmt := top 17
theorem sc_is_name : FnScope ["value", "letter"] ["value"] (defScope s_is_name) := ⟨rfl, rfl, rfl, by decide +kernel, rfl, by decide +kernel, by decide +kernel⟩
def d_is_name : He.DefD := ⟨("is_name", none), "is_name", "is_name", defArgs s_is_name, defBody s_is_name, defScope s_is_name, [], []⟩
abbrev s_is_greatest : Stmt := top 18
theorem sc_is_greatest : FnScope ["value"] ["value"] (defScope s_is_greatest) := ⟨rfl, rfl, rfl, by decide +kernel, rfl, by decide +kernel, by decide +kernel⟩
def d_is_greatest : He.DefD := ⟨("is_greatest", none), "is_greatest", "is_greatest", defArgs s_is_greatest, defBody s_is_greatest, defScope s_is_greatest, [], []⟩
abbrev s_is_value : Stmt := top 19
theorem sc_is_value : FnScope ["value"] ["value"] (defScope s_is_value) := ⟨rfl, rfl, rfl, by decide +kernel, rfl, by decide +kernel, by decide +kernel⟩
def d_is_value : He.DefD := ⟨("is_value", none), "is_value", "is_value", defArgs s_is_value, defBody s_is_value, defScope s_is_value, [], []⟩
abbrev s_is_within : Stmt := top 20
theorem sc_is_within : FnScope ["value", "greatest"] ["value", "greatest"] (defScope s_is_within) := ⟨rfl, rfl, rfl, by decide +kernel, rfl, by decide +kernel, by decide +kernel⟩
def d_is_within : He.DefD := ⟨("is_within", none), "is_within", "is_within", defArgs s_is_within, defBody s_is_within, defScope s_is_within, [], []⟩
abbrev s_Column___init__ : Stmt := inClass (top 23) 0
theorem sc_Column___init__ : FnScope ["self", "name", "greatest", "default", "number"] ["self", "name", "greatest", "default", "number"] (defScope s_Column___init__) := ⟨rfl, rfl, rfl, by decide +kernel, rfl, by decide +kernel, by decide +kernel⟩
def d_Column___init__ : He.DefD := ⟨("Column", some "__init__"), "__init__", "Column.__init__", defArgs s_Column___init__, defBody s_Column___init__, defScope s_Column___init__, [.non], [("number", (.int 0))]⟩
abbrev s_Column___eq__ : Stmt := inClass (top 23) 1
theorem sc_Column___eq__ : FnScope ["self", "other"] ["self", "other"] (defScope s_Column___eq__) := ⟨rfl, rfl, rfl, by decide +kernel, rfl, by decide +kernel, by decide +kernel⟩
def d_Column___eq__ : He.DefD := ⟨("Column", some "__eq__"), "__eq__", "Column.__eq__", defArgs s_Column___eq__, defBody s_Column___eq__, defScope s_Column___eq__, [], []⟩
abbrev s_Column___contains__ : Stmt := inClass (top 23) 2
theorem sc_Column___contains__ : FnScope ["self", "x"] ["self", "x"] (defScope s_Column___contains__) := ⟨rfl, rfl, rfl, by decide +kernel, rfl, by decide +kernel, by decide +kernel⟩
def d_Column___contains__ : He.DefD := ⟨("Column", some "__contains__"), "__contains__", "Column.__contains__", defArgs s_Column___contains__, defBody s_Column___contains__, defScope s_Column___contains__, [], []⟩
abbrev s_Column_all_values : Stmt := inClass (top 23) 3
theorem sc_Column_all_values : FnScope ["self"] ["self"] (defScope s_Column_all_values) := ⟨rfl, rfl, rfl, by decide +kernel, rfl, by decide +kernel, by decide +kernel⟩
def d_Column_all_values : He.DefD := ⟨("Column", some "all_values"), "all_values", "Column.all_values", defArgs s_Column_all_values, defBody s_Column_all_values, defScope s_Column_all_values, [], []⟩
abbrev s_Column_changed : Stmt := inClass (top 23) 4
theorem sc_Column_changed : FnScope ["self", "part", "value", "parts"] ["self", "part", "value"] (defScope s_Column_changed) := ⟨rfl, rfl, rfl, by decide +kernel, rfl, by decide +kernel, by decide +kernel⟩
def d_Column_changed : He.DefD := ⟨("Column", some "changed"), "changed", "Column.changed", defArgs s_Column_changed, defBody s_Column_changed, defScope s_Column_changed, [], []⟩
abbrev s_column_named : Stmt := top 24
theorem sc_column_named : FnScope ["columns", "name", "column"] ["columns", "name"] (defScope s_column_named) := ⟨rfl, rfl, rfl, by decide +kernel, rfl, by decide +kernel, by decide +kernel⟩
def d_column_named : He.DefD := ⟨("column_named", none), "column_named", "column_named", defArgs s_column_named, defBody s_column_named, defScope s_column_named, [], []⟩
abbrev s_column_numbered : Stmt := top 25
theorem sc_column_numbered : FnScope ["columns", "number", "column"] ["columns", "number"] (defScope s_column_numbered) := ⟨rfl, rfl, rfl, by decide +kernel, rfl, by decide +kernel, by decide +kernel⟩
def d_column_numbered : He.DefD := ⟨("column_numbered", none), "column_numbered", "column_numbered", defArgs s_column_numbered, defBody s_column_numbered, defScope s_column_numbered, [], []⟩
abbrev s_is_change : Stmt := top 29
theorem sc_is_change : FnScope ["value"] ["value"] (defScope s_is_change) := ⟨rfl, rfl, rfl, by decide +kernel, rfl, by decide +kernel, by decide +kernel⟩
def d_is_change : He.DefD := ⟨("is_change", none), "is_change", "is_change", defArgs s_is_change, defBody s_is_change, defScope s_is_change, [], []⟩
abbrev s_has_parts : Stmt := top 30
theorem sc_has_parts : FnScope ["kind", "parts"] ["kind", "parts"] (defScope s_has_parts) := ⟨rfl, rfl, rfl, by decide +kernel, rfl, by decide +kernel, by decide +kernel⟩
def d_has_parts : He.DefD := ⟨("has_parts", none), "has_parts", "has_parts", defArgs s_has_parts, defBody s_has_parts, defScope s_has_parts, [], []⟩
abbrev s_is_single_part : Stmt := top 31
theorem sc_is_single_part : FnScope ["kind", "part"] ["kind", "part"] (defScope s_is_single_part) := ⟨rfl, rfl, rfl, by decide +kernel, rfl, by decide +kernel, by decide +kernel⟩
def d_is_single_part : He.DefD := ⟨("is_single_part", none), "is_single_part", "is_single_part", defArgs s_is_single_part, defBody s_is_single_part, defScope s_is_single_part, [], []⟩
abbrev s_is_way : Stmt := top 32
theorem sc_is_way : FnScope ["value"] ["value"] (defScope s_is_way) := ⟨rfl, rfl, rfl, by decide +kernel, rfl, by decide +kernel, by decide +kernel⟩
def d_is_way : He.DefD := ⟨("is_way", none), "is_way", "is_way", defArgs s_is_way, defBody s_is_way, defScope s_is_way, [], []⟩
abbrev s_kind_of : Stmt := top 33
theorem sc_kind_of : FnScope ["change"] ["change"] (defScope s_kind_of) := ⟨rfl, rfl, rfl, by decide +kernel, rfl, by decide +kernel, by decide +kernel⟩
def d_kind_of : He.DefD := ⟨("kind_of", none), "kind_of", "kind_of", defArgs s_kind_of, defBody s_kind_of, defScope s_kind_of, [], []⟩
abbrev s_hindrance : Stmt := top 34
theorem sc_hindrance : FnScope ["columns", "change", "kind", "column"] ["columns", "change"] (defScope s_hindrance) := ⟨rfl, rfl, rfl, by decide +kernel, rfl, by decide +kernel, by decide +kernel⟩
def d_hindrance : He.DefD := ⟨("hindrance", none), "hindrance", "hindrance", defArgs s_hindrance, defBody s_hindrance, defScope s_hindrance, [], []⟩
abbrev s_add_hindrance : Stmt := top 35
theorem sc_add_hindrance : FnScope ["columns", "namesake", "change"] ["columns", "namesake", "change"] (defScope s_add_hindrance) := ⟨rfl, rfl, rfl, by decide +kernel, rfl, by decide +kernel, by decide +kernel⟩
def d_add_hindrance : He.DefD := ⟨("add_hindrance", none), "add_hindrance", "add_hindrance", defArgs s_add_hindrance, defBody s_add_hindrance, defScope s_add_hindrance, [], []⟩
abbrev s_columns_behind : Stmt := top 36
theorem sc_columns_behind : FnScope ["columns", "change", "number", "kind", "name", "column"] ["columns", "change", "number"] (defScope s_columns_behind) := ⟨rfl, rfl, rfl, by decide +kernel, rfl, by decide +kernel, by decide +kernel⟩
def d_columns_behind : He.DefD := ⟨("columns_behind", none), "columns_behind", "columns_behind", defArgs s_columns_behind, defBody s_columns_behind, defScope s_columns_behind, [], []⟩
abbrev s_changed_column : Stmt := top 37
theorem sc_changed_column : FnScope ["column", "change", "kind", "default"] ["column", "change"] (defScope s_changed_column) := ⟨rfl, rfl, rfl, by decide +kernel, rfl, by decide +kernel, by decide +kernel⟩
def d_changed_column : He.DefD := ⟨("changed_column", none), "changed_column", "changed_column", defArgs s_changed_column, defBody s_changed_column, defScope s_changed_column, [], []⟩
abbrev s_changed_value : Stmt := top 38
theorem sc_changed_value : FnScope ["column", "change", "value"] ["column", "change", "value"] (defScope s_changed_value) := ⟨rfl, rfl, rfl, by decide +kernel, rfl, by decide +kernel, by decide +kernel⟩
def d_changed_value : He.DefD := ⟨("changed_value", none), "changed_value", "changed_value", defArgs s_changed_value, defBody s_changed_value, defScope s_changed_value, [], []⟩
abbrev s_value_above : Stmt := top 39
theorem sc_value_above : FnScope ["change"] ["change"] (defScope s_value_above) := ⟨rfl, rfl, rfl, by decide +kernel, rfl, by decide +kernel, by decide +kernel⟩
def d_value_above : He.DefD := ⟨("value_above", none), "value_above", "value_above", defArgs s_value_above, defBody s_value_above, defScope s_value_above, [], []⟩
abbrev s_is_edition : Stmt := top 42
theorem sc_is_edition : FnScope ["history", "value"] ["history", "value"] (defScope s_is_edition) := ⟨rfl, rfl, rfl, by decide +kernel, rfl, by decide +kernel, by decide +kernel⟩
def d_is_edition : He.DefD := ⟨("is_edition", none), "is_edition", "is_edition", defArgs s_is_edition, defBody s_is_edition, defScope s_is_edition, [], []⟩
abbrev s_edition_of : Stmt := top 43
theorem sc_edition_of : FnScope ["history", "edition"] ["history", "edition"] (defScope s_edition_of) := ⟨rfl, rfl, rfl, by decide +kernel, rfl, by decide +kernel, by decide +kernel⟩
def d_edition_of : He.DefD := ⟨("edition_of", none), "edition_of", "edition_of", defArgs s_edition_of, defBody s_edition_of, defScope s_edition_of, [], []⟩
abbrev s_numbered_columns : Stmt := top 44
theorem sc_numbered_columns : FnScope ["columns", "names", "index", "column"] ["columns"] (defScope s_numbered_columns) := ⟨rfl, rfl, rfl, by decide +kernel, rfl, by decide +kernel, by decide +kernel⟩
def d_numbered_columns : He.DefD := ⟨("numbered_columns", none), "numbered_columns", "numbered_columns", defArgs s_numbered_columns, defBody s_numbered_columns, defScope s_numbered_columns, [], []⟩
abbrev s_columns_of_editions : Stmt := top 45
theorem sc_columns_of_editions : FnScope ["first", "changes", "editions", "number", "index", "change", "columns"] ["first", "changes"] (defScope s_columns_of_editions) := ⟨rfl, rfl, rfl, by decide +kernel, rfl, by decide +kernel, by decide +kernel⟩
def d_columns_of_editions : He.DefD := ⟨("columns_of_editions", none), "columns_of_editions", "columns_of_editions", defArgs s_columns_of_editions, defBody s_columns_of_editions, defScope s_columns_of_editions, [], []⟩
abbrev s_births : Stmt := top 46
theorem sc_births : FnScope ["editions", "born", "edition", "columns", "column"] ["editions"] (defScope s_births) := ⟨rfl, rfl, rfl, by decide +kernel, rfl, by decide +kernel, by decide +kernel⟩
def d_births : He.DefD := ⟨("births", none), "births", "births", defArgs s_births, defBody s_births, defScope s_births, [], []⟩
abbrev s_drops : Stmt := top 47
theorem sc_drops : FnScope ["editions", "many", "dropped", "edition", "column"] ["editions", "many"] (defScope s_drops) := ⟨rfl, rfl, rfl, by decide +kernel, rfl, by decide +kernel, by decide +kernel⟩
def d_drops : He.DefD := ⟨("drops", none), "drops", "drops", defArgs s_drops, defBody s_drops, defScope s_drops, [], []⟩
abbrev s_History___init__ : Stmt := inClass (top 48) 0
theorem sc_History___init__ : FnScope ["self", "columns", "changes"] ["self", "columns", "changes"] (defScope s_History___init__) := ⟨rfl, rfl, rfl, by decide +kernel, rfl, by decide +kernel, by decide +kernel⟩
def d_History___init__ : He.DefD := ⟨("History", some "__init__"), "__init__", "History.__init__", defArgs s_History___init__, defBody s_History___init__, defScope s_History___init__, [(.adr (He.dflAt ("History", some "__init__") 0))], []⟩
abbrev s_History___eq__ : Stmt := inClass (top 48) 1
theorem sc_History___eq__ : FnScope ["self", "other"] ["self", "other"] (defScope s_History___eq__) := ⟨rfl, rfl, rfl, by decide +kernel, rfl, by decide +kernel, by decide +kernel⟩
def d_History___eq__ : He.DefD := ⟨("History", some "__eq__"), "__eq__", "History.__eq__", defArgs s_History___eq__, defBody s_History___eq__, defScope s_History___eq__, [], []⟩
abbrev s_History___len__ : Stmt := inClass (top 48) 2
theorem sc_History___len__ : FnScope ["self"] ["self"] (defScope s_History___len__) := ⟨rfl, rfl, rfl, by decide +kernel, rfl, by decide +kernel, by decide +kernel⟩
def d_History___len__ : He.DefD := ⟨("History", some "__len__"), "__len__", "History.__len__", defArgs s_History___len__, defBody s_History___len__, defScope s_History___len__, [], []⟩
abbrev s_History___getitem__ : Stmt := inClass (top 48) 3
theorem sc_History___getitem__ : FnScope ["self", "at"] ["self", "at"] (defScope s_History___getitem__) := ⟨rfl, rfl, rfl, by decide +kernel, rfl, by decide +kernel, by decide +kernel⟩
def d_History___getitem__ : He.DefD := ⟨("History", some "__getitem__"), "__getitem__", "History.__getitem__", defArgs s_History___getitem__, defBody s_History___getitem__, defScope s_History___getitem__, [], []⟩
abbrev s_History___iter__ : Stmt := inClass (top 48) 4
theorem sc_History___iter__ : FnScope ["self"] ["self"] (defScope s_History___iter__) := ⟨rfl, rfl, rfl, by decide +kernel, rfl, by decide +kernel, by decide +kernel⟩
def d_History___iter__ : He.DefD := ⟨("History", some "__iter__"), "__iter__", "History.__iter__", defArgs s_History___iter__, defBody s_History___iter__, defScope s_History___iter__, [], []⟩
abbrev s_History_first_columns : Stmt := inClass (top 48) 5
theorem sc_History_first_columns : FnScope ["self"] ["self"] (defScope s_History_first_columns) := ⟨rfl, rfl, rfl, by decide +kernel, rfl, by decide +kernel, by decide +kernel⟩
def d_History_first_columns : He.DefD := ⟨("History", some "first_columns"), "first_columns", "History.first_columns", defArgs s_History_first_columns, defBody s_History_first_columns, defScope s_History_first_columns, [], []⟩
abbrev s_History_columns : Stmt := inClass (top 48) 6
theorem sc_History_columns : FnScope ["self", "edition"] ["self", "edition"] (defScope s_History_columns) := ⟨rfl, rfl, rfl, by decide +kernel, rfl, by decide +kernel, by decide +kernel⟩
def d_History_columns : He.DefD := ⟨("History", some "columns"), "columns", "History.columns", defArgs s_History_columns, defBody s_History_columns, defScope s_History_columns, [.non], []⟩
abbrev s_History_changes_told : Stmt := inClass (top 48) 7
theorem sc_History_changes_told : FnScope ["self"] ["self"] (defScope s_History_changes_told) := ⟨rfl, rfl, rfl, by decide +kernel, rfl, by decide +kernel, by decide +kernel⟩
def d_History_changes_told : He.DefD := ⟨("History", some "changes_told"), "changes_told", "History.changes_told", defArgs s_History_changes_told, defBody s_History_changes_told, defScope s_History_changes_told, [], []⟩
abbrev s_History_column : Stmt := inClass (top 48) 8
theorem sc_History_column : FnScope ["self", "name", "edition", "found"] ["self", "name", "edition"] (defScope s_History_column) := ⟨rfl, rfl, rfl, by decide +kernel, rfl, by decide +kernel, by decide +kernel⟩
def d_History_column : He.DefD := ⟨("History", some "column"), "column", "History.column", defArgs s_History_column, defBody s_History_column, defScope s_History_column, [], [("edition", .non)]⟩
abbrev s_History_by_number : Stmt := inClass (top 48) 9
theorem sc_History_by_number : FnScope ["self", "number", "edition"] ["self", "number", "edition"] (defScope s_History_by_number) := ⟨rfl, rfl, rfl, by decide +kernel, rfl, by decide +kernel, by decide +kernel⟩
def d_History_by_number : He.DefD := ⟨("History", some "by_number"), "by_number", "History.by_number", defArgs s_History_by_number, defBody s_History_by_number, defScope s_History_by_number, [], [("edition", .non)]⟩
abbrev s_History_numbers : Stmt := inClass (top 48) 10
theorem sc_History_numbers : FnScope ["self"] ["self"] (defScope s_History_numbers) := ⟨rfl, rfl, rfl, by decide +kernel, rfl, by decide +kernel, by decide +kernel⟩
def d_History_numbers : He.DefD := ⟨("History", some "numbers"), "numbers", "History.numbers", defArgs s_History_numbers, defBody s_History_numbers, defScope s_History_numbers, [], []⟩
abbrev s_History_born : Stmt := inClass (top 48) 11
theorem sc_History_born : FnScope ["self", "number"] ["self", "number"] (defScope s_History_born) := ⟨rfl, rfl, rfl, by decide +kernel, rfl, by decide +kernel, by decide +kernel⟩
def d_History_born : He.DefD := ⟨("History", some "born"), "born", "History.born", defArgs s_History_born, defBody s_History_born, defScope s_History_born, [], []⟩
abbrev s_History_dropped : Stmt := inClass (top 48) 12
theorem sc_History_dropped : FnScope ["self", "number"] ["self", "number"] (defScope s_History_dropped) := ⟨rfl, rfl, rfl, by decide +kernel, rfl, by decide +kernel, by decide +kernel⟩
def d_History_dropped : He.DefD := ⟨("History", some "dropped"), "dropped", "History.dropped", defArgs s_History_dropped, defBody s_History_dropped, defScope s_History_dropped, [], []⟩
abbrev s_History_then : Stmt := inClass (top 48) 13
theorem sc_History_then : FnScope ["self", "change"] ["self", "change"] (defScope s_History_then) := ⟨rfl, rfl, rfl, by decide +kernel, rfl, by decide +kernel, by decide +kernel⟩
def d_History_then : He.DefD := ⟨("History", some "then"), "then", "History.then", defArgs s_History_then, defBody s_History_then, defScope s_History_then, [], []⟩
abbrev s_History_back : Stmt := inClass (top 48) 14
theorem sc_History_back : FnScope ["self"] ["self"] (defScope s_History_back) := ⟨rfl, rfl, rfl, by decide +kernel, rfl, by decide +kernel, by decide +kernel⟩
def d_History_back : He.DefD := ⟨("History", some "back"), "back", "History.back", defArgs s_History_back, defBody s_History_back, defScope s_History_back, [], []⟩
abbrev s_History_up_to : Stmt := inClass (top 48) 15
theorem sc_History_up_to : FnScope ["self", "edition"] ["self", "edition"] (defScope s_History_up_to) := ⟨rfl, rfl, rfl, by decide +kernel, rfl, by decide +kernel, by decide +kernel⟩
def d_History_up_to : He.DefD := ⟨("History", some "up_to"), "up_to", "History.up_to", defArgs s_History_up_to, defBody s_History_up_to, defScope s_History_up_to, [], []⟩
abbrev s_History_behind : Stmt := inClass (top 48) 16
theorem sc_History_behind : FnScope ["self", "edition"] ["self", "edition"] (defScope s_History_behind) := ⟨rfl, rfl, rfl, by decide +kernel, rfl, by decide +kernel, by decide +kernel⟩
def d_History_behind : He.DefD := ⟨("History", some "behind"), "behind", "History.behind", defArgs s_History_behind, defBody s_History_behind, defScope s_History_behind, [], []⟩
abbrev s_is_given : Stmt := top 49
theorem sc_is_given : FnScope ["history", "value"] ["history", "value"] (defScope s_is_given) := ⟨rfl, rfl, rfl, by decide +kernel, rfl, by decide +kernel, by decide +kernel⟩
def d_is_given : He.DefD := ⟨("is_given", none), "is_given", "is_given", defArgs s_is_given, defBody s_is_given, defScope s_is_given, [], []⟩
abbrev s__law_pool : Stmt := top 51
theorem sc__law_pool : FnScope ["_law_script", "_law_k", "_law_size", "_law_mixed"] ["_law_script", "_law_k"] (defScope s__law_pool) := ⟨rfl, rfl, rfl, by decide +kernel, rfl, by decide +kernel, by decide +kernel⟩
def d__law_pool : He.DefD := ⟨("_law_pool", none), "_law_pool", "_law_pool", defArgs s__law_pool, defBody s__law_pool, defScope s__law_pool, [], []⟩
abbrev s__law_draw : Stmt := top 52
theorem sc__law_draw : FnScope ["_law_pool_here", "_law_many", "_law_found"] ["_law_pool_here", "_law_many"] (defScope s__law_draw) := ⟨rfl, rfl, rfl, by decide +kernel, rfl, by decide +kernel, by decide +kernel⟩
def d__law_draw : He.DefD := ⟨("_law_draw", none), "_law_draw", "_law_draw", defArgs s__law_draw, defBody s__law_draw, defScope s__law_draw, [], []⟩
abbrev s__law_pick : Stmt := top 53
theorem sc__law_pick : FnScope ["_law_pool_here", "_law_row"] ["_law_pool_here", "_law_row"] (defScope s__law_pick) := ⟨rfl, rfl, rfl, by decide +kernel, rfl, by decide +kernel, by decide +kernel⟩
def d__law_pick : He.DefD := ⟨("_law_pick", none), "_law_pick", "_law_pick", defArgs s__law_pick, defBody s__law_pick, defScope s__law_pick, [], []⟩
abbrev s__law_value : Stmt := top 54
theorem sc__law_value : FnScope ["_law_pool_here", "_law_most"] ["_law_pool_here", "_law_most"] (defScope s__law_value) := ⟨rfl, rfl, rfl, by decide +kernel, rfl, by decide +kernel, by decide +kernel⟩
def d__law_value : He.DefD := ⟨("_law_value", none), "_law_value", "_law_value", defArgs s__law_value, defBody s__law_value, defScope s__law_value, [], []⟩
abbrev s__law_word : Stmt := top 55
theorem sc__law_word : FnScope ["_law_cols_here", "_law_change_here", "_law_col", "_law_names"] ["_law_cols_here", "_law_change_here"] (defScope s__law_word) := ⟨rfl, rfl, rfl, by decide +kernel, rfl, by decide +kernel, by decide +kernel⟩
def d__law_word : He.DefD := ⟨("_law_word", none), "_law_word", "_law_word", defArgs s__law_word, defBody s__law_word, defScope s__law_word, [], []⟩
abbrev s__law_cut : Stmt := top 56
theorem sc__law_cut : FnScope ["_law_value_here", "_law_change_here"] ["_law_value_here", "_law_change_here"] (defScope s__law_cut) := ⟨rfl, rfl, rfl, by decide +kernel, rfl, by decide +kernel, by decide +kernel⟩
def d__law_cut : He.DefD := ⟨("_law_cut", none), "_law_cut", "_law_cut", defArgs s__law_cut, defBody s__law_cut, defScope s__law_cut, [], []⟩
abbrev s__law_col_then : Stmt := top 57
theorem sc__law_col_then : FnScope ["_law_col", "_law_change_here", "_law_name", "_law_most", "_law_given", "_law_seat"] ["_law_col", "_law_change_here"] (defScope s__law_col_then) := ⟨rfl, rfl, rfl, by decide +kernel, rfl, by decide +kernel, by decide +kernel⟩
def d__law_col_then : He.DefD := ⟨("_law_col_then", none), "_law_col_then", "_law_col_then", defArgs s__law_col_then, defBody s__law_col_then, defScope s__law_col_then, [], []⟩
abbrev s__law_then : Stmt := top 58
theorem sc__law_then : FnScope ["_law_cols_here", "_law_change_here", "_law_seat", "_law_col"] ["_law_cols_here", "_law_change_here", "_law_seat"] (defScope s__law_then) := ⟨rfl, rfl, rfl, by decide +kernel, rfl, by decide +kernel, by decide +kernel⟩
def d__law_then : He.DefD := ⟨("_law_then", none), "_law_then", "_law_then", defArgs s__law_then, defBody s__law_then, defScope s__law_then, [], []⟩
abbrev s__law_change : Stmt := top 59
theorem sc__law_change : FnScope ["_law_pool_here", "_law_most", "_law_kind", "_law_name"] ["_law_pool_here", "_law_most"] (defScope s__law_change) := ⟨rfl, rfl, rfl, by decide +kernel, rfl, by decide +kernel, by decide +kernel⟩
def d__law_change : He.DefD := ⟨("_law_change", none), "_law_change", "_law_change", defArgs s__law_change, defBody s__law_change, defScope s__law_change, [], []⟩
abbrev s__law_first : Stmt := top 60
theorem sc__law_first : FnScope ["_law_pool_here", "_law_most", "_law_found", "_law_name", "_law_top"] ["_law_pool_here", "_law_most"] (defScope s__law_first) := ⟨rfl, rfl, rfl, by decide +kernel, rfl, by decide +kernel, by decide +kernel⟩
def d__law_first : He.DefD := ⟨("_law_first", none), "_law_first", "_law_first", defArgs s__law_first, defBody s__law_first, defScope s__law_first, [], []⟩
abbrev s__law_history : Stmt := top 61
theorem sc__law_history : FnScope ["_law_pool_here", "_law_many", "_law_most", "_law_h", "_law_turn", "_law_change_here"] ["_law_pool_here", "_law_many", "_law_most"] (defScope s__law_history) := ⟨rfl, rfl, rfl, by decide +kernel, rfl, by decide +kernel, by decide +kernel⟩
def d__law_history : He.DefD := ⟨("_law_history", none), "_law_history", "_law_history", defArgs s__law_history, defBody s__law_history, defScope s__law_history, [], []⟩
abbrev s__law_cols : Stmt := top 62
theorem sc__law_cols : FnScope ["_law_cols_here", "_law_col"] ["_law_cols_here"] (defScope s__law_cols) := ⟨rfl, rfl, rfl, by decide +kernel, rfl, by decide +kernel, by decide +kernel⟩
def d__law_cols : He.DefD := ⟨("_law_cols", none), "_law_cols", "_law_cols", defArgs s__law_cols, defBody s__law_cols, defScope s__law_cols, [], []⟩
abbrev s__law_made : Stmt := top 63
theorem sc__law_made : FnScope ["_law_h"] ["_law_h"] (defScope s__law_made) := ⟨rfl, rfl, rfl, by decide +kernel, rfl, by decide +kernel, by decide +kernel⟩
def d__law_made : He.DefD := ⟨("_law_made", none), "_law_made", "_law_made", defArgs s__law_made, defBody s__law_made, defScope s__law_made, [], []⟩
abbrev s__law_handed_right : Stmt := top 64
theorem sc__law_handed_right : FnScope ["_law_h", "_law_history_here", "_law_first_here", "_law_given", "_law_handed"] ["_law_h", "_law_history_here"] (defScope s__law_handed_right) := ⟨rfl, rfl, rfl, by decide +kernel, rfl, by decide +kernel, by decide +kernel⟩
def d__law_handed_right : He.DefD := ⟨("_law_handed_right", none), "_law_handed_right", "_law_handed_right", defArgs s__law_handed_right, defBody s__law_handed_right, defScope s__law_handed_right, [], []⟩
abbrev s__law_near_right : Stmt := top 65
theorem sc__law_near_right : FnScope ["_law_h", "_law_history_here", "_law_change_here", "_law_other"] ["_law_h", "_law_history_here"] (defScope s__law_near_right) := ⟨rfl, rfl, rfl, by decide +kernel, rfl, by decide +kernel, by decide +kernel⟩
def d__law_near_right : He.DefD := ⟨("_law_near_right", none), "_law_near_right", "_law_near_right", defArgs s__law_near_right, defBody s__law_near_right, defScope s__law_near_right, [], []⟩
abbrev s_law : Stmt := top 66
theorem sc_law : FnScope ["_law_script", "_law_k", "_law_pool_here", "_law_h", "_law_history_here", "_law_turn", "_law_at", "_law_told", "_law_strange", "_law_other", "_law_col"] ["_law_script"] (defScope s_law) := ⟨rfl, rfl, rfl, by decide +kernel, rfl, by decide +kernel, by decide +kernel⟩
def d_law : He.DefD := ⟨("law", none), "law", "law", defArgs s_law, defBody s_law, defScope s_law, [], []⟩
def fn0 : List He.DefD := [d_is_whole, d_is_list, d_is_word, d_is_name, d_is_greatest, d_is_value, d_is_within, d_Column___init__, d_Column___eq__, d_Column___contains__, d_Column_changed, d_column_named, d_column_numbered, d_is_change, d_has_parts, d_is_single_part, d_is_way, d_kind_of, d_hindrance, d_add_hindrance, d_columns_behind, d_changed_column, d_changed_value, d_value_above, d_is_edition, d_edition_of, d_numbered_columns, d_columns_of_editions, d_births, d_drops, d_History___init__, d_History___eq__, d_History___len__, d_History___getitem__, d_History_first_columns, d_History_columns, d_History_changes_told, d_History_column, d_History_numbers, d_History_born, d_History_dropped, d_History_behind, d_is_given, d__law_pool, d__law_draw, d__law_pick, d__law_value, d__law_word, d__law_cut, d__law_col_then, d__law_then, d__law_change, d__law_first, d__law_history, d__law_cols, d__law_made, d__law_handed_right, d__law_near_right, d_law]
def fa0 : List He.Fa := [.glo "is_whole", .glo "is_list", .glo "is_word", .glo "is_name", .glo "is_greatest", .glo "is_value", .glo "is_within", .glo "column_named", .glo "column_numbered", .glo "is_change", .glo "has_parts", .glo "is_single_part", .glo "is_way", .glo "kind_of", .glo "hindrance", .glo "add_hindrance", .glo "columns_behind", .glo "changed_column", .glo "changed_value", .glo "value_above", .glo "is_edition", .glo "edition_of", .glo "numbered_columns", .glo "columns_of_editions", .glo "births", .glo "drops", .glo "is_given", .glo "_law_pool", .glo "_law_draw", .glo "_law_pick", .glo "_law_value", .glo "_law_word", .glo "_law_cut", .glo "_law_col_then", .glo "_law_then", .glo "_law_change", .glo "_law_first", .glo "_law_history", .glo "_law_cols", .glo "_law_made", .glo "_law_handed_right", .glo "_law_near_right", .glo "law", .glo "Column", .cls "Column", .mkr "Column", .noat "Column" "name", .noat "Column" "greatest", .noat "Column" "default", .noat "Column" "number", .meth "Column" "__eq__", .meth "Column" "changed", .glo "History", .cls "History", .mkr "History", .noat "History" "_editions", .noat "History" "_changes", .noat "History" "_births", .noat "History" "_drops", .meth "History" "__eq__", .meth "History" "__len__", .meth "History" "__getitem__", .meth "History" "first_columns", .meth "History" "columns", .meth "History" "changes_told", .meth "History" "numbers", .str "MISSING" "missing", .str "LETTERS" "abcdefghijklmnopqrstuvwxyz", .int "LONGEST_NAME" 8, .int "MOST_GREATEST" 99, .glo "PARTS", .glo "WAYS", .int "MOST_COLUMNS" 6, .int "MOST_CHANGES" 40, .free "isinstance", .free "int", .free "bool", .free "list", .free "tuple", .free "str", .free "all", .free "len", .free "enumerate", .free "range", .free "max", .free "min"]
def fnl : List He.DefD := fn0
def fal : List He.Fa := fa0
def exl (K : PySem.W.Frag) : Bool := [emptyTupB K (He.dflAt ("History", some "__init__") 0 K), He.tupB K "PARTS" [(.str "name"), (.str "greatest"), (.str "default"), (.str "number")], He.tupB K "WAYS" [(.str "cut"), (.str "none"), (.str "refuse")], insB K "Column", ninB K "Column", insB K "History", PySem.W.fnIn K (He.ma K (He.ga K "History") "__getitem__"), neB K "History", ninB K "History"].all id
structure Tx (K : PySem.W.Frag) (mg : Str → Option Value) : Prop where
  c : He.SaysD fal fnl K
  e : exl K = true
  h : ∃ h : Heap, K.In h ∧ h.Ns mainGlobals mg
section
variable {K : PySem.W.Frag} {mg : Str → Option Value}
theorem mg_is_whole (T : Tx K mg) : mg "is_whole" = some (.ref (He.ga K "is_whole")) := by
  obtain ⟨h, X, G⟩ := T.h
  exact He.glo_ok X G (T.c.fact 0 rfl)
theorem mg_is_list (T : Tx K mg) : mg "is_list" = some (.ref (He.ga K "is_list")) := by
  obtain ⟨h, X, G⟩ := T.h
  exact He.glo_ok X G (T.c.fact 1 rfl)
theorem mg_is_word (T : Tx K mg) : mg "is_word" = some (.ref (He.ga K "is_word")) := by
  obtain ⟨h, X, G⟩ := T.h
  exact He.glo_ok X G (T.c.fact 2 rfl)
theorem mg_is_name (T : Tx K mg) : mg "is_name" = some (.ref (He.ga K "is_name")) := by
  obtain ⟨h, X, G⟩ := T.h
  exact He.glo_ok X G (T.c.fact 3 rfl)
theorem mg_is_greatest (T : Tx K mg) : mg "is_greatest" = some (.ref (He.ga K "is_greatest")) := by
  obtain ⟨h, X, G⟩ := T.h
  exact He.glo_ok X G (T.c.fact 4 rfl)
theorem mg_is_value (T : Tx K mg) : mg "is_value" = some (.ref (He.ga K "is_value")) := by
  obtain ⟨h, X, G⟩ := T.h
  exact He.glo_ok X G (T.c.fact 5 rfl)
theorem mg_is_within (T : Tx K mg) : mg "is_within" = some (.ref (He.ga K "is_within")) := by
  obtain ⟨h, X, G⟩ := T.h
  exact He.glo_ok X G (T.c.fact 6 rfl)
theorem mg_column_named (T : Tx K mg) : mg "column_named" = some (.ref (He.ga K "column_named")) := by
  obtain ⟨h, X, G⟩ := T.h
  exact He.glo_ok X G (T.c.fact 7 rfl)
theorem mg_column_numbered (T : Tx K mg) : mg "column_numbered" = some (.ref (He.ga K "column_numbered")) := by
  obtain ⟨h, X, G⟩ := T.h
  exact He.glo_ok X G (T.c.fact 8 rfl)
theorem mg_is_change (T : Tx K mg) : mg "is_change" = some (.ref (He.ga K "is_change")) := by
  obtain ⟨h, X, G⟩ := T.h
  exact He.glo_ok X G (T.c.fact 9 rfl)
theorem mg_has_parts (T : Tx K mg) : mg "has_parts" = some (.ref (He.ga K "has_parts")) := by
  obtain ⟨h, X, G⟩ := T.h
  exact He.glo_ok X G (T.c.fact 10 rfl)
theorem mg_is_single_part (T : Tx K mg) : mg "is_single_part" = some (.ref (He.ga K "is_single_part")) := by
  obtain ⟨h, X, G⟩ := T.h
  exact He.glo_ok X G (T.c.fact 11 rfl)
theorem mg_is_way (T : Tx K mg) : mg "is_way" = some (.ref (He.ga K "is_way")) := by
  obtain ⟨h, X, G⟩ := T.h
  exact He.glo_ok X G (T.c.fact 12 rfl)
theorem mg_kind_of (T : Tx K mg) : mg "kind_of" = some (.ref (He.ga K "kind_of")) := by
  obtain ⟨h, X, G⟩ := T.h
  exact He.glo_ok X G (T.c.fact 13 rfl)
theorem mg_hindrance (T : Tx K mg) : mg "hindrance" = some (.ref (He.ga K "hindrance")) := by
  obtain ⟨h, X, G⟩ := T.h
  exact He.glo_ok X G (T.c.fact 14 rfl)
theorem mg_add_hindrance (T : Tx K mg) : mg "add_hindrance" = some (.ref (He.ga K "add_hindrance")) := by
  obtain ⟨h, X, G⟩ := T.h
  exact He.glo_ok X G (T.c.fact 15 rfl)
theorem mg_columns_behind (T : Tx K mg) : mg "columns_behind" = some (.ref (He.ga K "columns_behind")) := by
  obtain ⟨h, X, G⟩ := T.h
  exact He.glo_ok X G (T.c.fact 16 rfl)
theorem mg_changed_column (T : Tx K mg) : mg "changed_column" = some (.ref (He.ga K "changed_column")) := by
  obtain ⟨h, X, G⟩ := T.h
  exact He.glo_ok X G (T.c.fact 17 rfl)
theorem mg_changed_value (T : Tx K mg) : mg "changed_value" = some (.ref (He.ga K "changed_value")) := by
  obtain ⟨h, X, G⟩ := T.h
  exact He.glo_ok X G (T.c.fact 18 rfl)
theorem mg_value_above (T : Tx K mg) : mg "value_above" = some (.ref (He.ga K "value_above")) := by
  obtain ⟨h, X, G⟩ := T.h
  exact He.glo_ok X G (T.c.fact 19 rfl)
theorem mg_is_edition (T : Tx K mg) : mg "is_edition" = some (.ref (He.ga K "is_edition")) := by
  obtain ⟨h, X, G⟩ := T.h
  exact He.glo_ok X G (T.c.fact 20 rfl)
theorem mg_edition_of (T : Tx K mg) : mg "edition_of" = some (.ref (He.ga K "edition_of")) := by
  obtain ⟨h, X, G⟩ := T.h
  exact He.glo_ok X G (T.c.fact 21 rfl)
theorem mg_numbered_columns (T : Tx K mg) : mg "numbered_columns" = some (.ref (He.ga K "numbered_columns")) := by
  obtain ⟨h, X, G⟩ := T.h
  exact He.glo_ok X G (T.c.fact 22 rfl)
theorem mg_columns_of_editions (T : Tx K mg) : mg "columns_of_editions" = some (.ref (He.ga K "columns_of_editions")) := by
  obtain ⟨h, X, G⟩ := T.h
  exact He.glo_ok X G (T.c.fact 23 rfl)
theorem mg_births (T : Tx K mg) : mg "births" = some (.ref (He.ga K "births")) := by
  obtain ⟨h, X, G⟩ := T.h
  exact He.glo_ok X G (T.c.fact 24 rfl)
theorem mg_drops (T : Tx K mg) : mg "drops" = some (.ref (He.ga K "drops")) := by
  obtain ⟨h, X, G⟩ := T.h
  exact He.glo_ok X G (T.c.fact 25 rfl)
theorem mg_is_given (T : Tx K mg) : mg "is_given" = some (.ref (He.ga K "is_given")) := by
  obtain ⟨h, X, G⟩ := T.h
  exact He.glo_ok X G (T.c.fact 26 rfl)
theorem mg__law_pool (T : Tx K mg) : mg "_law_pool" = some (.ref (He.ga K "_law_pool")) := by
  obtain ⟨h, X, G⟩ := T.h
  exact He.glo_ok X G (T.c.fact 27 rfl)
theorem mg__law_draw (T : Tx K mg) : mg "_law_draw" = some (.ref (He.ga K "_law_draw")) := by
  obtain ⟨h, X, G⟩ := T.h
  exact He.glo_ok X G (T.c.fact 28 rfl)
theorem mg__law_pick (T : Tx K mg) : mg "_law_pick" = some (.ref (He.ga K "_law_pick")) := by
  obtain ⟨h, X, G⟩ := T.h
  exact He.glo_ok X G (T.c.fact 29 rfl)
theorem mg__law_value (T : Tx K mg) : mg "_law_value" = some (.ref (He.ga K "_law_value")) := by
  obtain ⟨h, X, G⟩ := T.h
  exact He.glo_ok X G (T.c.fact 30 rfl)
theorem mg__law_word (T : Tx K mg) : mg "_law_word" = some (.ref (He.ga K "_law_word")) := by
  obtain ⟨h, X, G⟩ := T.h
  exact He.glo_ok X G (T.c.fact 31 rfl)
theorem mg__law_cut (T : Tx K mg) : mg "_law_cut" = some (.ref (He.ga K "_law_cut")) := by
  obtain ⟨h, X, G⟩ := T.h
  exact He.glo_ok X G (T.c.fact 32 rfl)
theorem mg__law_col_then (T : Tx K mg) : mg "_law_col_then" = some (.ref (He.ga K "_law_col_then")) := by
  obtain ⟨h, X, G⟩ := T.h
  exact He.glo_ok X G (T.c.fact 33 rfl)
theorem mg__law_then (T : Tx K mg) : mg "_law_then" = some (.ref (He.ga K "_law_then")) := by
  obtain ⟨h, X, G⟩ := T.h
  exact He.glo_ok X G (T.c.fact 34 rfl)
theorem mg__law_change (T : Tx K mg) : mg "_law_change" = some (.ref (He.ga K "_law_change")) := by
  obtain ⟨h, X, G⟩ := T.h
  exact He.glo_ok X G (T.c.fact 35 rfl)
theorem mg__law_first (T : Tx K mg) : mg "_law_first" = some (.ref (He.ga K "_law_first")) := by
  obtain ⟨h, X, G⟩ := T.h
  exact He.glo_ok X G (T.c.fact 36 rfl)
theorem mg__law_history (T : Tx K mg) : mg "_law_history" = some (.ref (He.ga K "_law_history")) := by
  obtain ⟨h, X, G⟩ := T.h
  exact He.glo_ok X G (T.c.fact 37 rfl)
theorem mg__law_cols (T : Tx K mg) : mg "_law_cols" = some (.ref (He.ga K "_law_cols")) := by
  obtain ⟨h, X, G⟩ := T.h
  exact He.glo_ok X G (T.c.fact 38 rfl)
theorem mg__law_made (T : Tx K mg) : mg "_law_made" = some (.ref (He.ga K "_law_made")) := by
  obtain ⟨h, X, G⟩ := T.h
  exact He.glo_ok X G (T.c.fact 39 rfl)
theorem mg__law_handed_right (T : Tx K mg) : mg "_law_handed_right" = some (.ref (He.ga K "_law_handed_right")) := by
  obtain ⟨h, X, G⟩ := T.h
  exact He.glo_ok X G (T.c.fact 40 rfl)
theorem mg__law_near_right (T : Tx K mg) : mg "_law_near_right" = some (.ref (He.ga K "_law_near_right")) := by
  obtain ⟨h, X, G⟩ := T.h
  exact He.glo_ok X G (T.c.fact 41 rfl)
theorem mg_law (T : Tx K mg) : mg "law" = some (.ref (He.ga K "law")) := by
  obtain ⟨h, X, G⟩ := T.h
  exact He.glo_ok X G (T.c.fact 42 rfl)
theorem mg_Column (T : Tx K mg) : mg "Column" = some (.ref (He.ga K "Column")) := by
  obtain ⟨h, X, G⟩ := T.h
  exact He.glo_ok X G (T.c.fact 43 rfl)
theorem cl_Column (T : Tx K mg) : Cls K (He.ga K "Column") := He.cls_ok (T.c.fact 44 rfl)
theorem mk_Column (T : Tx K mg) : Mk K (He.ga K "Column") (He.ma K (He.ga K "Column") "__init__") := He.mkr_ok (T.c.fact 45 rfl)
theorem na_Column_name (T : Tx K mg) : NoAttr K (He.ga K "Column") "name" := He.noat_ok (T.c.fact 46 rfl)
theorem na_Column_greatest (T : Tx K mg) : NoAttr K (He.ga K "Column") "greatest" := He.noat_ok (T.c.fact 47 rfl)
theorem na_Column_default (T : Tx K mg) : NoAttr K (He.ga K "Column") "default" := He.noat_ok (T.c.fact 48 rfl)
theorem na_Column_number (T : Tx K mg) : NoAttr K (He.ga K "Column") "number" := He.noat_ok (T.c.fact 49 rfl)
theorem me_Column___eq__ (T : Tx K mg) : Meth K (He.ga K "Column") "__eq__" (He.ma K (He.ga K "Column") "__eq__") := He.meth_ok (T.c.fact 50 rfl)
theorem me_Column_changed (T : Tx K mg) : Meth K (He.ga K "Column") "changed" (He.ma K (He.ga K "Column") "changed") := He.meth_ok (T.c.fact 51 rfl)
theorem mg_History (T : Tx K mg) : mg "History" = some (.ref (He.ga K "History")) := by
  obtain ⟨h, X, G⟩ := T.h
  exact He.glo_ok X G (T.c.fact 52 rfl)
theorem cl_History (T : Tx K mg) : Cls K (He.ga K "History") := He.cls_ok (T.c.fact 53 rfl)
theorem mk_History (T : Tx K mg) : Mk K (He.ga K "History") (He.ma K (He.ga K "History") "__init__") := He.mkr_ok (T.c.fact 54 rfl)
theorem na_History__editions (T : Tx K mg) : NoAttr K (He.ga K "History") "_editions" := He.noat_ok (T.c.fact 55 rfl)
theorem na_History__changes (T : Tx K mg) : NoAttr K (He.ga K "History") "_changes" := He.noat_ok (T.c.fact 56 rfl)
theorem na_History__births (T : Tx K mg) : NoAttr K (He.ga K "History") "_births" := He.noat_ok (T.c.fact 57 rfl)
theorem na_History__drops (T : Tx K mg) : NoAttr K (He.ga K "History") "_drops" := He.noat_ok (T.c.fact 58 rfl)
theorem me_History___eq__ (T : Tx K mg) : Meth K (He.ga K "History") "__eq__" (He.ma K (He.ga K "History") "__eq__") := He.meth_ok (T.c.fact 59 rfl)
theorem me_History___len__ (T : Tx K mg) : Meth K (He.ga K "History") "__len__" (He.ma K (He.ga K "History") "__len__") := He.meth_ok (T.c.fact 60 rfl)
theorem me_History___getitem__ (T : Tx K mg) : Meth K (He.ga K "History") "__getitem__" (He.ma K (He.ga K "History") "__getitem__") := He.meth_ok (T.c.fact 61 rfl)
theorem me_History_first_columns (T : Tx K mg) : Meth K (He.ga K "History") "first_columns" (He.ma K (He.ga K "History") "first_columns") := He.meth_ok (T.c.fact 62 rfl)
theorem me_History_columns (T : Tx K mg) : Meth K (He.ga K "History") "columns" (He.ma K (He.ga K "History") "columns") := He.meth_ok (T.c.fact 63 rfl)
theorem me_History_changes_told (T : Tx K mg) : Meth K (He.ga K "History") "changes_told" (He.ma K (He.ga K "History") "changes_told") := He.meth_ok (T.c.fact 64 rfl)
theorem me_History_numbers (T : Tx K mg) : Meth K (He.ga K "History") "numbers" (He.ma K (He.ga K "History") "numbers") := He.meth_ok (T.c.fact 65 rfl)
theorem ms_MISSING (T : Tx K mg) : ∃ t, mg "MISSING" = some (.str "missing" t) := by
  obtain ⟨h, X, G⟩ := T.h
  exact He.str_ok X G (T.c.fact 66 rfl)
theorem ms_LETTERS (T : Tx K mg) : ∃ t, mg "LETTERS" = some (.str "abcdefghijklmnopqrstuvwxyz" t) := by
  obtain ⟨h, X, G⟩ := T.h
  exact He.str_ok X G (T.c.fact 67 rfl)
theorem mi_LONGEST_NAME (T : Tx K mg) : ∃ t, mg "LONGEST_NAME" = some (.int 8 t) := by
  obtain ⟨h, X, G⟩ := T.h
  exact He.int_ok X G (T.c.fact 68 rfl)
theorem mi_MOST_GREATEST (T : Tx K mg) : ∃ t, mg "MOST_GREATEST" = some (.int 99 t) := by
  obtain ⟨h, X, G⟩ := T.h
  exact He.int_ok X G (T.c.fact 69 rfl)
theorem mg_PARTS (T : Tx K mg) : mg "PARTS" = some (.ref (He.ga K "PARTS")) := by
  obtain ⟨h, X, G⟩ := T.h
  exact He.glo_ok X G (T.c.fact 70 rfl)
theorem mg_WAYS (T : Tx K mg) : mg "WAYS" = some (.ref (He.ga K "WAYS")) := by
  obtain ⟨h, X, G⟩ := T.h
  exact He.glo_ok X G (T.c.fact 71 rfl)
theorem mi_MOST_COLUMNS (T : Tx K mg) : ∃ t, mg "MOST_COLUMNS" = some (.int 6 t) := by
  obtain ⟨h, X, G⟩ := T.h
  exact He.int_ok X G (T.c.fact 72 rfl)
theorem mi_MOST_CHANGES (T : Tx K mg) : ∃ t, mg "MOST_CHANGES" = some (.int 40 t) := by
  obtain ⟨h, X, G⟩ := T.h
  exact He.int_ok X G (T.c.fact 73 rfl)
theorem fr_isinstance (T : Tx K mg) : mg "isinstance" = none := by
  obtain ⟨h, X, G⟩ := T.h
  exact He.free_ok X G (T.c.fact 74 rfl)
theorem fr_int (T : Tx K mg) : mg "int" = none := by
  obtain ⟨h, X, G⟩ := T.h
  exact He.free_ok X G (T.c.fact 75 rfl)
theorem fr_bool (T : Tx K mg) : mg "bool" = none := by
  obtain ⟨h, X, G⟩ := T.h
  exact He.free_ok X G (T.c.fact 76 rfl)
theorem fr_list (T : Tx K mg) : mg "list" = none := by
  obtain ⟨h, X, G⟩ := T.h
  exact He.free_ok X G (T.c.fact 77 rfl)
theorem fr_tuple (T : Tx K mg) : mg "tuple" = none := by
  obtain ⟨h, X, G⟩ := T.h
  exact He.free_ok X G (T.c.fact 78 rfl)
theorem fr_str (T : Tx K mg) : mg "str" = none := by
  obtain ⟨h, X, G⟩ := T.h
  exact He.free_ok X G (T.c.fact 79 rfl)
theorem fr_all (T : Tx K mg) : mg "all" = none := by
  obtain ⟨h, X, G⟩ := T.h
  exact He.free_ok X G (T.c.fact 80 rfl)
theorem fr_len (T : Tx K mg) : mg "len" = none := by
  obtain ⟨h, X, G⟩ := T.h
  exact He.free_ok X G (T.c.fact 81 rfl)
theorem fr_enumerate (T : Tx K mg) : mg "enumerate" = none := by
  obtain ⟨h, X, G⟩ := T.h
  exact He.free_ok X G (T.c.fact 82 rfl)
theorem fr_range (T : Tx K mg) : mg "range" = none := by
  obtain ⟨h, X, G⟩ := T.h
  exact He.free_ok X G (T.c.fact 83 rfl)
theorem fr_max (T : Tx K mg) : mg "max" = none := by
  obtain ⟨h, X, G⟩ := T.h
  exact He.free_ok X G (T.c.fact 84 rfl)
theorem fr_min (T : Tx K mg) : mg "min" = none := by
  obtain ⟨h, X, G⟩ := T.h
  exact He.free_ok X G (T.c.fact 85 rfl)
theorem fd_is_whole (T : Tx K mg) : ∃ fd, FunD K "is_whole" "is_whole" (defArgs s_is_whole) (defBody s_is_whole) (defScope s_is_whole) (d_is_whole.dvs K) (d_is_whole.kws K) (He.ga K "is_whole") fd := T.c.def_ 0 (d := d_is_whole) rfl
theorem fd_is_list (T : Tx K mg) : ∃ fd, FunD K "is_list" "is_list" (defArgs s_is_list) (defBody s_is_list) (defScope s_is_list) (d_is_list.dvs K) (d_is_list.kws K) (He.ga K "is_list") fd := T.c.def_ 1 (d := d_is_list) rfl
theorem fd_is_word (T : Tx K mg) : ∃ fd, FunD K "is_word" "is_word" (defArgs s_is_word) (defBody s_is_word) (defScope s_is_word) (d_is_word.dvs K) (d_is_word.kws K) (He.ga K "is_word") fd := T.c.def_ 2 (d := d_is_word) rfl
theorem fd_is_name (T : Tx K mg) : ∃ fd, FunD K "is_name" "is_name" (defArgs s_is_name) (defBody s_is_name) (defScope s_is_name) (d_is_name.dvs K) (d_is_name.kws K) (He.ga K "is_name") fd := T.c.def_ 3 (d := d_is_name) rfl
theorem fd_is_greatest (T : Tx K mg) : ∃ fd, FunD K "is_greatest" "is_greatest" (defArgs s_is_greatest) (defBody s_is_greatest) (defScope s_is_greatest) (d_is_greatest.dvs K) (d_is_greatest.kws K) (He.ga K "is_greatest") fd := T.c.def_ 4 (d := d_is_greatest) rfl
theorem fd_is_value (T : Tx K mg) : ∃ fd, FunD K "is_value" "is_value" (defArgs s_is_value) (defBody s_is_value) (defScope s_is_value) (d_is_value.dvs K) (d_is_value.kws K) (He.ga K "is_value") fd := T.c.def_ 5 (d := d_is_value) rfl
theorem fd_is_within (T : Tx K mg) : ∃ fd, FunD K "is_within" "is_within" (defArgs s_is_within) (defBody s_is_within) (defScope s_is_within) (d_is_within.dvs K) (d_is_within.kws K) (He.ga K "is_within") fd := T.c.def_ 6 (d := d_is_within) rfl
theorem fd_Column___init__ (T : Tx K mg) : ∃ fd, FunD K "__init__" "Column.__init__" (defArgs s_Column___init__) (defBody s_Column___init__) (defScope s_Column___init__) (d_Column___init__.dvs K) (d_Column___init__.kws K) (He.ma K (He.ga K "Column") "__init__") fd := T.c.def_ 7 (d := d_Column___init__) rfl
theorem fd_Column___eq__ (T : Tx K mg) : ∃ fd, FunD K "__eq__" "Column.__eq__" (defArgs s_Column___eq__) (defBody s_Column___eq__) (defScope s_Column___eq__) (d_Column___eq__.dvs K) (d_Column___eq__.kws K) (He.ma K (He.ga K "Column") "__eq__") fd := T.c.def_ 8 (d := d_Column___eq__) rfl
theorem fd_Column___contains__ (T : Tx K mg) : ∃ fd, FunD K "__contains__" "Column.__contains__" (defArgs s_Column___contains__) (defBody s_Column___contains__) (defScope s_Column___contains__) (d_Column___contains__.dvs K) (d_Column___contains__.kws K) (He.ma K (He.ga K "Column") "__contains__") fd := T.c.def_ 9 (d := d_Column___contains__) rfl
theorem fd_Column_changed (T : Tx K mg) : ∃ fd, FunD K "changed" "Column.changed" (defArgs s_Column_changed) (defBody s_Column_changed) (defScope s_Column_changed) (d_Column_changed.dvs K) (d_Column_changed.kws K) (He.ma K (He.ga K "Column") "changed") fd := T.c.def_ 10 (d := d_Column_changed) rfl
theorem fd_column_named (T : Tx K mg) : ∃ fd, FunD K "column_named" "column_named" (defArgs s_column_named) (defBody s_column_named) (defScope s_column_named) (d_column_named.dvs K) (d_column_named.kws K) (He.ga K "column_named") fd := T.c.def_ 11 (d := d_column_named) rfl
theorem fd_column_numbered (T : Tx K mg) : ∃ fd, FunD K "column_numbered" "column_numbered" (defArgs s_column_numbered) (defBody s_column_numbered) (defScope s_column_numbered) (d_column_numbered.dvs K) (d_column_numbered.kws K) (He.ga K "column_numbered") fd := T.c.def_ 12 (d := d_column_numbered) rfl
theorem fd_is_change (T : Tx K mg) : ∃ fd, FunD K "is_change" "is_change" (defArgs s_is_change) (defBody s_is_change) (defScope s_is_change) (d_is_change.dvs K) (d_is_change.kws K) (He.ga K "is_change") fd := T.c.def_ 13 (d := d_is_change) rfl
theorem fd_has_parts (T : Tx K mg) : ∃ fd, FunD K "has_parts" "has_parts" (defArgs s_has_parts) (defBody s_has_parts) (defScope s_has_parts) (d_has_parts.dvs K) (d_has_parts.kws K) (He.ga K "has_parts") fd := T.c.def_ 14 (d := d_has_parts) rfl
theorem fd_is_single_part (T : Tx K mg) : ∃ fd, FunD K "is_single_part" "is_single_part" (defArgs s_is_single_part) (defBody s_is_single_part) (defScope s_is_single_part) (d_is_single_part.dvs K) (d_is_single_part.kws K) (He.ga K "is_single_part") fd := T.c.def_ 15 (d := d_is_single_part) rfl
theorem fd_is_way (T : Tx K mg) : ∃ fd, FunD K "is_way" "is_way" (defArgs s_is_way) (defBody s_is_way) (defScope s_is_way) (d_is_way.dvs K) (d_is_way.kws K) (He.ga K "is_way") fd := T.c.def_ 16 (d := d_is_way) rfl
theorem fd_kind_of (T : Tx K mg) : ∃ fd, FunD K "kind_of" "kind_of" (defArgs s_kind_of) (defBody s_kind_of) (defScope s_kind_of) (d_kind_of.dvs K) (d_kind_of.kws K) (He.ga K "kind_of") fd := T.c.def_ 17 (d := d_kind_of) rfl
theorem fd_hindrance (T : Tx K mg) : ∃ fd, FunD K "hindrance" "hindrance" (defArgs s_hindrance) (defBody s_hindrance) (defScope s_hindrance) (d_hindrance.dvs K) (d_hindrance.kws K) (He.ga K "hindrance") fd := T.c.def_ 18 (d := d_hindrance) rfl
theorem fd_add_hindrance (T : Tx K mg) : ∃ fd, FunD K "add_hindrance" "add_hindrance" (defArgs s_add_hindrance) (defBody s_add_hindrance) (defScope s_add_hindrance) (d_add_hindrance.dvs K) (d_add_hindrance.kws K) (He.ga K "add_hindrance") fd := T.c.def_ 19 (d := d_add_hindrance) rfl
theorem fd_columns_behind (T : Tx K mg) : ∃ fd, FunD K "columns_behind" "columns_behind" (defArgs s_columns_behind) (defBody s_columns_behind) (defScope s_columns_behind) (d_columns_behind.dvs K) (d_columns_behind.kws K) (He.ga K "columns_behind") fd := T.c.def_ 20 (d := d_columns_behind) rfl
theorem fd_changed_column (T : Tx K mg) : ∃ fd, FunD K "changed_column" "changed_column" (defArgs s_changed_column) (defBody s_changed_column) (defScope s_changed_column) (d_changed_column.dvs K) (d_changed_column.kws K) (He.ga K "changed_column") fd := T.c.def_ 21 (d := d_changed_column) rfl
theorem fd_changed_value (T : Tx K mg) : ∃ fd, FunD K "changed_value" "changed_value" (defArgs s_changed_value) (defBody s_changed_value) (defScope s_changed_value) (d_changed_value.dvs K) (d_changed_value.kws K) (He.ga K "changed_value") fd := T.c.def_ 22 (d := d_changed_value) rfl
theorem fd_value_above (T : Tx K mg) : ∃ fd, FunD K "value_above" "value_above" (defArgs s_value_above) (defBody s_value_above) (defScope s_value_above) (d_value_above.dvs K) (d_value_above.kws K) (He.ga K "value_above") fd := T.c.def_ 23 (d := d_value_above) rfl
theorem fd_is_edition (T : Tx K mg) : ∃ fd, FunD K "is_edition" "is_edition" (defArgs s_is_edition) (defBody s_is_edition) (defScope s_is_edition) (d_is_edition.dvs K) (d_is_edition.kws K) (He.ga K "is_edition") fd := T.c.def_ 24 (d := d_is_edition) rfl
theorem fd_edition_of (T : Tx K mg) : ∃ fd, FunD K "edition_of" "edition_of" (defArgs s_edition_of) (defBody s_edition_of) (defScope s_edition_of) (d_edition_of.dvs K) (d_edition_of.kws K) (He.ga K "edition_of") fd := T.c.def_ 25 (d := d_edition_of) rfl
theorem fd_numbered_columns (T : Tx K mg) : ∃ fd, FunD K "numbered_columns" "numbered_columns" (defArgs s_numbered_columns) (defBody s_numbered_columns) (defScope s_numbered_columns) (d_numbered_columns.dvs K) (d_numbered_columns.kws K) (He.ga K "numbered_columns") fd := T.c.def_ 26 (d := d_numbered_columns) rfl
theorem fd_columns_of_editions (T : Tx K mg) : ∃ fd, FunD K "columns_of_editions" "columns_of_editions" (defArgs s_columns_of_editions) (defBody s_columns_of_editions) (defScope s_columns_of_editions) (d_columns_of_editions.dvs K) (d_columns_of_editions.kws K) (He.ga K "columns_of_editions") fd := T.c.def_ 27 (d := d_columns_of_editions) rfl
theorem fd_births (T : Tx K mg) : ∃ fd, FunD K "births" "births" (defArgs s_births) (defBody s_births) (defScope s_births) (d_births.dvs K) (d_births.kws K) (He.ga K "births") fd := T.c.def_ 28 (d := d_births) rfl
theorem fd_drops (T : Tx K mg) : ∃ fd, FunD K "drops" "drops" (defArgs s_drops) (defBody s_drops) (defScope s_drops) (d_drops.dvs K) (d_drops.kws K) (He.ga K "drops") fd := T.c.def_ 29 (d := d_drops) rfl
theorem fd_History___init__ (T : Tx K mg) : ∃ fd, FunD K "__init__" "History.__init__" (defArgs s_History___init__) (defBody s_History___init__) (defScope s_History___init__) (d_History___init__.dvs K) (d_History___init__.kws K) (He.ma K (He.ga K "History") "__init__") fd := T.c.def_ 30 (d := d_History___init__) rfl
theorem fd_History___eq__ (T : Tx K mg) : ∃ fd, FunD K "__eq__" "History.__eq__" (defArgs s_History___eq__) (defBody s_History___eq__) (defScope s_History___eq__) (d_History___eq__.dvs K) (d_History___eq__.kws K) (He.ma K (He.ga K "History") "__eq__") fd := T.c.def_ 31 (d := d_History___eq__) rfl
theorem fd_History___len__ (T : Tx K mg) : ∃ fd, FunD K "__len__" "History.__len__" (defArgs s_History___len__) (defBody s_History___len__) (defScope s_History___len__) (d_History___len__.dvs K) (d_History___len__.kws K) (He.ma K (He.ga K "History") "__len__") fd := T.c.def_ 32 (d := d_History___len__) rfl
theorem fd_History___getitem__ (T : Tx K mg) : ∃ fd, FunD K "__getitem__" "History.__getitem__" (defArgs s_History___getitem__) (defBody s_History___getitem__) (defScope s_History___getitem__) (d_History___getitem__.dvs K) (d_History___getitem__.kws K) (He.ma K (He.ga K "History") "__getitem__") fd := T.c.def_ 33 (d := d_History___getitem__) rfl
theorem fd_History_first_columns (T : Tx K mg) : ∃ fd, FunD K "first_columns" "History.first_columns" (defArgs s_History_first_columns) (defBody s_History_first_columns) (defScope s_History_first_columns) (d_History_first_columns.dvs K) (d_History_first_columns.kws K) (He.ma K (He.ga K "History") "first_columns") fd := T.c.def_ 34 (d := d_History_first_columns) rfl
theorem fd_History_columns (T : Tx K mg) : ∃ fd, FunD K "columns" "History.columns" (defArgs s_History_columns) (defBody s_History_columns) (defScope s_History_columns) (d_History_columns.dvs K) (d_History_columns.kws K) (He.ma K (He.ga K "History") "columns") fd := T.c.def_ 35 (d := d_History_columns) rfl
theorem fd_History_changes_told (T : Tx K mg) : ∃ fd, FunD K "changes_told" "History.changes_told" (defArgs s_History_changes_told) (defBody s_History_changes_told) (defScope s_History_changes_told) (d_History_changes_told.dvs K) (d_History_changes_told.kws K) (He.ma K (He.ga K "History") "changes_told") fd := T.c.def_ 36 (d := d_History_changes_told) rfl
theorem fd_History_column (T : Tx K mg) : ∃ fd, FunD K "column" "History.column" (defArgs s_History_column) (defBody s_History_column) (defScope s_History_column) (d_History_column.dvs K) (d_History_column.kws K) (He.ma K (He.ga K "History") "column") fd := T.c.def_ 37 (d := d_History_column) rfl
theorem fd_History_numbers (T : Tx K mg) : ∃ fd, FunD K "numbers" "History.numbers" (defArgs s_History_numbers) (defBody s_History_numbers) (defScope s_History_numbers) (d_History_numbers.dvs K) (d_History_numbers.kws K) (He.ma K (He.ga K "History") "numbers") fd := T.c.def_ 38 (d := d_History_numbers) rfl
theorem fd_History_born (T : Tx K mg) : ∃ fd, FunD K "born" "History.born" (defArgs s_History_born) (defBody s_History_born) (defScope s_History_born) (d_History_born.dvs K) (d_History_born.kws K) (He.ma K (He.ga K "History") "born") fd := T.c.def_ 39 (d := d_History_born) rfl
theorem fd_History_dropped (T : Tx K mg) : ∃ fd, FunD K "dropped" "History.dropped" (defArgs s_History_dropped) (defBody s_History_dropped) (defScope s_History_dropped) (d_History_dropped.dvs K) (d_History_dropped.kws K) (He.ma K (He.ga K "History") "dropped") fd := T.c.def_ 40 (d := d_History_dropped) rfl
theorem fd_History_behind (T : Tx K mg) : ∃ fd, FunD K "behind" "History.behind" (defArgs s_History_behind) (defBody s_History_behind) (defScope s_History_behind) (d_History_behind.dvs K) (d_History_behind.kws K) (He.ma K (He.ga K "History") "behind") fd := T.c.def_ 41 (d := d_History_behind) rfl
theorem fd_is_given (T : Tx K mg) : ∃ fd, FunD K "is_given" "is_given" (defArgs s_is_given) (defBody s_is_given) (defScope s_is_given) (d_is_given.dvs K) (d_is_given.kws K) (He.ga K "is_given") fd := T.c.def_ 42 (d := d_is_given) rfl
theorem fd__law_pool (T : Tx K mg) : ∃ fd, FunD K "_law_pool" "_law_pool" (defArgs s__law_pool) (defBody s__law_pool) (defScope s__law_pool) (d__law_pool.dvs K) (d__law_pool.kws K) (He.ga K "_law_pool") fd := T.c.def_ 43 (d := d__law_pool) rfl
theorem fd__law_draw (T : Tx K mg) : ∃ fd, FunD K "_law_draw" "_law_draw" (defArgs s__law_draw) (defBody s__law_draw) (defScope s__law_draw) (d__law_draw.dvs K) (d__law_draw.kws K) (He.ga K "_law_draw") fd := T.c.def_ 44 (d := d__law_draw) rfl
theorem fd__law_pick (T : Tx K mg) : ∃ fd, FunD K "_law_pick" "_law_pick" (defArgs s__law_pick) (defBody s__law_pick) (defScope s__law_pick) (d__law_pick.dvs K) (d__law_pick.kws K) (He.ga K "_law_pick") fd := T.c.def_ 45 (d := d__law_pick) rfl
theorem fd__law_value (T : Tx K mg) : ∃ fd, FunD K "_law_value" "_law_value" (defArgs s__law_value) (defBody s__law_value) (defScope s__law_value) (d__law_value.dvs K) (d__law_value.kws K) (He.ga K "_law_value") fd := T.c.def_ 46 (d := d__law_value) rfl
theorem fd__law_word (T : Tx K mg) : ∃ fd, FunD K "_law_word" "_law_word" (defArgs s__law_word) (defBody s__law_word) (defScope s__law_word) (d__law_word.dvs K) (d__law_word.kws K) (He.ga K "_law_word") fd := T.c.def_ 47 (d := d__law_word) rfl
theorem fd__law_cut (T : Tx K mg) : ∃ fd, FunD K "_law_cut" "_law_cut" (defArgs s__law_cut) (defBody s__law_cut) (defScope s__law_cut) (d__law_cut.dvs K) (d__law_cut.kws K) (He.ga K "_law_cut") fd := T.c.def_ 48 (d := d__law_cut) rfl
theorem fd__law_col_then (T : Tx K mg) : ∃ fd, FunD K "_law_col_then" "_law_col_then" (defArgs s__law_col_then) (defBody s__law_col_then) (defScope s__law_col_then) (d__law_col_then.dvs K) (d__law_col_then.kws K) (He.ga K "_law_col_then") fd := T.c.def_ 49 (d := d__law_col_then) rfl
theorem fd__law_then (T : Tx K mg) : ∃ fd, FunD K "_law_then" "_law_then" (defArgs s__law_then) (defBody s__law_then) (defScope s__law_then) (d__law_then.dvs K) (d__law_then.kws K) (He.ga K "_law_then") fd := T.c.def_ 50 (d := d__law_then) rfl
theorem fd__law_change (T : Tx K mg) : ∃ fd, FunD K "_law_change" "_law_change" (defArgs s__law_change) (defBody s__law_change) (defScope s__law_change) (d__law_change.dvs K) (d__law_change.kws K) (He.ga K "_law_change") fd := T.c.def_ 51 (d := d__law_change) rfl
theorem fd__law_first (T : Tx K mg) : ∃ fd, FunD K "_law_first" "_law_first" (defArgs s__law_first) (defBody s__law_first) (defScope s__law_first) (d__law_first.dvs K) (d__law_first.kws K) (He.ga K "_law_first") fd := T.c.def_ 52 (d := d__law_first) rfl
theorem fd__law_history (T : Tx K mg) : ∃ fd, FunD K "_law_history" "_law_history" (defArgs s__law_history) (defBody s__law_history) (defScope s__law_history) (d__law_history.dvs K) (d__law_history.kws K) (He.ga K "_law_history") fd := T.c.def_ 53 (d := d__law_history) rfl
theorem fd__law_cols (T : Tx K mg) : ∃ fd, FunD K "_law_cols" "_law_cols" (defArgs s__law_cols) (defBody s__law_cols) (defScope s__law_cols) (d__law_cols.dvs K) (d__law_cols.kws K) (He.ga K "_law_cols") fd := T.c.def_ 54 (d := d__law_cols) rfl
theorem fd__law_made (T : Tx K mg) : ∃ fd, FunD K "_law_made" "_law_made" (defArgs s__law_made) (defBody s__law_made) (defScope s__law_made) (d__law_made.dvs K) (d__law_made.kws K) (He.ga K "_law_made") fd := T.c.def_ 55 (d := d__law_made) rfl
theorem fd__law_handed_right (T : Tx K mg) : ∃ fd, FunD K "_law_handed_right" "_law_handed_right" (defArgs s__law_handed_right) (defBody s__law_handed_right) (defScope s__law_handed_right) (d__law_handed_right.dvs K) (d__law_handed_right.kws K) (He.ga K "_law_handed_right") fd := T.c.def_ 56 (d := d__law_handed_right) rfl
theorem fd__law_near_right (T : Tx K mg) : ∃ fd, FunD K "_law_near_right" "_law_near_right" (defArgs s__law_near_right) (defBody s__law_near_right) (defScope s__law_near_right) (d__law_near_right.dvs K) (d__law_near_right.kws K) (He.ga K "_law_near_right") fd := T.c.def_ 57 (d := d__law_near_right) rfl
theorem fd_law (T : Tx K mg) : ∃ fd, FunD K "law" "law" (defArgs s_law) (defBody s_law) (defScope s_law) (d_law.dvs K) (d_law.kws K) (He.ga K "law") fd := T.c.def_ 58 (d := d_law) rfl
theorem ex_History___init___0 (T : Tx K mg) : emptyTupB K (He.dflAt ("History", some "__init__") 0 K) = true := List.all_eq_true.mp T.e _ (List.mem_of_getElem? (i := 0) rfl)
theorem ex_PARTS (T : Tx K mg) : He.tupB K "PARTS" [(.str "name"), (.str "greatest"), (.str "default"), (.str "number")] = true := List.all_eq_true.mp T.e _ (List.mem_of_getElem? (i := 1) rfl)
theorem ex_WAYS (T : Tx K mg) : He.tupB K "WAYS" [(.str "cut"), (.str "none"), (.str "refuse")] = true := List.all_eq_true.mp T.e _ (List.mem_of_getElem? (i := 2) rfl)
theorem ex_Column (T : Tx K mg) : insB K "Column" = true := List.all_eq_true.mp T.e _ (List.mem_of_getElem? (i := 3) rfl)
theorem ex_Column_nin (T : Tx K mg) : ninB K "Column" = true := List.all_eq_true.mp T.e _ (List.mem_of_getElem? (i := 4) rfl)
theorem ex_History (T : Tx K mg) : insB K "History" = true := List.all_eq_true.mp T.e _ (List.mem_of_getElem? (i := 5) rfl)
theorem ex_History_fnx (T : Tx K mg) : PySem.W.fnIn K (He.ma K (He.ga K "History") "__getitem__") = true := List.all_eq_true.mp T.e _ (List.mem_of_getElem? (i := 6) rfl)
theorem ex_History_ne (T : Tx K mg) : neB K "History" = true := List.all_eq_true.mp T.e _ (List.mem_of_getElem? (i := 7) rfl)
theorem ex_History_nin (T : Tx K mg) : ninB K "History" = true := List.all_eq_true.mp T.e _ (List.mem_of_getElem? (i := 8) rfl)
end
/-! ### the head and the end -/
abbrev RowR : PySem.W.OpenRow := PySem.W.OpenLaw.row PySem.Challenge.rw_editionrows_k06_whole_histories
abbrev hkR : PySem.W.Hook := hookP 5 fal fnl exl
def obR (s : PySem.W.SharedT) : AlP := obsP 5 fal fnl exl (HandSHeadRun.getT s)
theorem obR_eq (s : PySem.W.SharedT) : obR s = hkR.obs s.abs := obsP_eq (HandSHeadRun.getT_eq s)
abbrev looseR : List PySem.Str := ((["_wall", "TableError", "BadColumn", "BadPart", "BadChange", "BadEdition", "UnknownName", "TooMany", "MISSING", "LETTERS", "LONGEST_NAME", "MOST_GREATEST", "is_whole", "is_list", "is_word", "is_name", "is_greatest", "is_value", "is_within", "PARTS", "Column", "column_named", "column_numbered", "WAYS", "MOST_COLUMNS"] : List PySem.Str) ++ (["is_change", "has_parts", "is_single_part", "is_way", "kind_of", "hindrance", "add_hindrance", "columns_behind", "changed_column", "changed_value", "value_above", "MOST_CHANGES", "is_edition", "edition_of", "numbered_columns", "columns_of_editions", "births", "drops", "History", "is_given", "_law_pool", "_law_draw", "_law_pick", "_law_value", "_law_word"] : List PySem.Str) ++ (["_law_cut", "_law_col_then", "_law_then", "_law_change", "_law_first", "_law_history", "_law_cols", "_law_made", "_law_handed_right", "_law_near_right"] : List PySem.Str))
theorem runL (w : World) : ∀ os : PySem.OsState, (HandSHeadRun.endF (HandSHeadRun.stepQ (HandSHeadRun.denQ HandSHeadRun.tabQ) RowR.prog w) 9000 RowR.prog w os).map (fun s => (HandSHeadRun.looksF RowR.prog (PySem.W.boot_heap w.params) s.abs, HandSHeadRun.seenQ (PySem.W.view RowR.prog [66]) looseR (PySem.importedModules RowR.prog.main.body) (fun s => PySem.W.xlAt (PySem.W.view RowR.prog [66]) [] s && PySem.W.recOk RowR.toRowW.records s) s.abs)) = some (true, PySem.W.openGood (PySem.W.view RowR.prog [66]) looseR) := by
  intro os
  kernel_rfl
theorem runO0 (w : World) : ∀ os : PySem.OsState, (HandSHeadRun.endF (HandSHeadRun.stepQ (HandSHeadRun.denQ HandSHeadRun.tabQ) RowR.prog w) 9000 RowR.prog w os).map (fun s => obsP 5 fa0 fn0 exl (HandSHeadRun.getT s)) = some (valP fn0) := by
  intro os
  kernel_rfl
theorem obs_two {n : Nat} {fa fb : List He.Fa} {fn gn : List He.DefD} {ex ey : PySem.W.Frag → Bool} {g : Addr → Option Obj} (h1 : obsP n fa fn ex g = valP fn) (h2 : obsP n fb gn ey g = valP gn) : obsP n (fa ++ fb) (fn ++ gn) ex g = valP (fn ++ gn) := by
  have a1 : ((fa.all fun f => f.ok (He.frG g (asW g n))) && fn.all fun d => d.ok (He.frG g (asW g n))) = true := congrArg (fun z : AlP => z.1.1) h1
  have a2 : fn.map (fun d => He.fnW (He.frG g (asW g n)) d.at_) = fn.map He.DefD.val := (congrArg (fun z : AlP => z.1.2) h1).trans (mapV_eq fn)
  have a3 : ex (He.frG g (asW g n)) = true := congrArg (fun z : AlP => z.2) h1
  have b1 : ((fb.all fun f => f.ok (He.frG g (asW g n))) && gn.all fun d => d.ok (He.frG g (asW g n))) = true := congrArg (fun z : AlP => z.1.1) h2
  have b2 : gn.map (fun d => He.fnW (He.frG g (asW g n)) d.at_) = gn.map He.DefD.val := (congrArg (fun z : AlP => z.1.2) h2).trans (mapV_eq gn)
  rw [valP_eq]
  rw [Bool.and_eq_true] at a1 b1
  show ((((fa ++ fb).all fun f => f.ok (He.frG g (asW g n))) && (fn ++ gn).all fun d => d.ok (He.frG g (asW g n)), (fn ++ gn).map fun d => He.fnW (He.frG g (asW g n)) d.at_), ex (He.frG g (asW g n))) = ((true, (fn ++ gn).map He.DefD.val), true)
  rw [List.all_append, List.all_append, a1.1, a1.2, b1.1, b1.2, List.map_append, a2, b2, List.map_append, a3]
  rfl
theorem join_run {S A B C : Type} {o : Option S} {f : S → A} {g : S → B} {h : S → C} {a : A} {b : B} {c : C} (e1 : o.map (fun s => (f s, g s)) = some (a, b)) (e2 : o.map h = some c) : o.map (fun s => (f s, g s, h s)) = some (a, b, c) := by
  cases o with
  | none => cases e1
  | some s =>
    have l : (f s, g s) = (a, b) := Option.some.inj e1
    have l1 : f s = a := congrArg Prod.fst l
    have l2 : g s = b := congrArg Prod.snd l
    have r : h s = c := Option.some.inj e2
    show some (f s, g s, h s) = some (a, b, c)
    rw [l1, l2, r]
theorem join_obs {n : Nat} {fa fb : List He.Fa} {fn gn : List He.DefD} {ex ey : PySem.W.Frag → Bool} {o : Option PySem.W.SharedT} (e1 : o.map (fun s => obsP n fa fn ex (HandSHeadRun.getT s)) = some (valP fn)) (e2 : o.map (fun s => obsP n fb gn ey (HandSHeadRun.getT s)) = some (valP gn)) :
    o.map (fun s => obsP n (fa ++ fb) (fn ++ gn) ex (HandSHeadRun.getT s)) = some (valP (fn ++ gn)) := by
  cases o with
  | none => cases e1
  | some s => exact congrArg some (obs_two (Option.some.inj e1) (Option.some.inj e2))
theorem runR (w : World) : HandSHeadRun.RunEq RowR (PySem.W.view RowR.prog [66]) hkR obR 9000 looseR w := fun os => join_run (runL w os) (runO0 w os)
section
variable {P : Program} {w : World} {K : PySem.W.Frag} {mg : Str → Option Value} {base : Heap}
/-! is_whole -/
def sp_is_whole (K : PySem.W.Frag) : Sp := fun vs H Q _ => ∃ (x : V) (t : String), vs = [x] ∧ TyX K H x (.type t) ∧ Q (.bl (isI x)) H
theorem ok_is_whole (T : Tx K mg) : Callee P w K mg base CX0 1 "is_whole" ["value"] [] (sp_is_whole K) := by
  refine mkCallee (fd_is_whole T) (mg_is_whole T) sc_is_whole (fun _ _ _ _ _ _ us hl => match us, hl with | [_], _ => rfl) (fun vs H Q E h => ?_) (fun cdv A outer s H vs Q E hr h => ?_)
  · obtain ⟨x, t, rfl, _⟩ := h
    rfl
  · obtain ⟨x, t, rfl, ty, k⟩ := h
    obtain ⟨ba, bb, e1, e2, e3⟩ := kit_whole ty
    refine ⟨_, pss_one (ps_ret (pe_and (pe_callB call_isi (by rfl) (fr_isinstance T) (by decide +kernel) (pa_cons (pv 0) (pa_cons (pe_bltn (v := .ty "int") (by rfl) (fr_int T) (by decide +kernel) rfl) pa_nil)))
      (pe_one (pe_not (pe_callB call_isi (by rfl) (fr_isinstance T) (by decide +kernel) (pa_cons (pv 0) (pa_cons (pe_bltn (v := .ty "bool") (by rfl) (fr_bool T) (by decide +kernel) rfl) pa_nil))))))), ?_⟩
    refine ⟨x, rfl, x, .ty "int", _, _, ba, rfl, .ty "int", ty, kit_ty e1, ba, rfl, ?_⟩
    cases ba with
    | false =>
      refine iteF ?_
      rw [← e3] at k
      exact k
    | true =>
      refine iteT ⟨x, rfl, x, .ty "bool", _, _, bb, rfl, .ty "bool", ty, kit_ty e2, bb, rfl, ?_⟩
      rw [← e3] at k
      exact k
/-! is_list, of a list or a tuple -/
theorem sqL_ty {K : PySem.W.Frag} {H : Hp} {a : Addr} {xs : List V} (h : SqL K H a xs) : TyX K H (.ref a) (.type "list") := by
  rcases h with (h | ⟨o, h⟩) | ⟨o, its, n, h, hc, _⟩
  · exact .base (.lst h)
  · exact .base (.frz h)
  · exact .kList h hc
def sp_is_list (K : PySem.W.Frag) : Sp := fun vs H Q _ => ∃ (a : Addr) (xs : List V), vs = [.ref a] ∧ SqL K H a xs ∧ ∀ H', Same H H' → Q (.bl true) H'
theorem ok_is_list (T : Tx K mg) : Callee P w K mg base CX0 1 "is_list" ["value"] [] (sp_is_list K) := by
  refine mkCallee (fd_is_list T) (mg_is_list T) sc_is_list (fun _ _ _ _ _ _ us hl => match us, hl with | [_], _ => rfl) (fun vs H Q E h => ?_) (fun cdv A outer s H vs Q E hr h => ?_)
  · obtain ⟨a, xs, rfl, _⟩ := h
    rfl
  · obtain ⟨a, xs, rfl, hx, k⟩ := h
    refine ⟨_, pss_one (ps_ret (pe_callB call_isiT (by rfl) (fr_isinstance T) (by decide +kernel) (pa_cons (pv 0) (pa_cons (pe_tup (pa_cons (pe_bltn (v := .ty "list") (by rfl) (fr_list T) (by decide +kernel) rfl) (pa_cons (pe_bltn (v := .ty "tuple") (by rfl) (fr_tuple T) (by decide +kernel) rfl) pa_nil))) pa_nil)))), ?_⟩
    refine ⟨_, rfl, (by show 2 ≤ sizeLine; decide), fun t nt => ?_⟩
    have s := same_new (o := .tup [.ty "list", .ty "tuple"]) nt
    exact ⟨.ref a, t, _, _, _, true, rfl, upd_same, .cons (.ty "list") (.cons (.ty "tuple") .nil), sqL_ty (s.seq hx), kitAny_cons (b := true) (kit_ty (by decide +kernel)) (fun z => by cases z) (fun _ => rfl), k _ s⟩
/-! is_word, of any value and a tuple of words -/
def wordV (x : V) (xs : List V) : Bool := match x with
  | .str z => inV (.str z) xs
  | _ => false
theorem kit_strW {K : PySem.W.Frag} {H : Hp} {x : V} {t : String} (ty : TyX K H x (.type t)) : ∃ a : Bool, kitB t "str" = some a ∧ ((a = true ∧ ∃ z, x = .str z) ∨ (a = false ∧ ∀ xs, wordV x xs = false)) := by
  cases ty with
  | base h =>
    cases h with
    | str z => exact ⟨true, by decide +kernel, .inl ⟨rfl, z, rfl⟩⟩
    | _ => exact ⟨false, by decide +kernel, .inr ⟨rfl, fun _ => rfl⟩⟩
  | _ => exact ⟨false, by decide +kernel, .inr ⟨rfl, fun _ => rfl⟩⟩
def sp_is_word (K : PySem.W.Frag) : Sp := fun vs H Q _ => ∃ (x : V) (t : String) (p : Addr) (xs : List V), vs = [x, .ref p] ∧ TyX K H x (.type t) ∧ SqT K H p xs ∧ xs.all flatV = true ∧ Q (.bl (wordV x xs)) H
theorem ok_is_word (T : Tx K mg) : Callee P w K mg base CX0 1 "is_word" ["value", "words"] [] (sp_is_word K) := by
  refine mkCallee (fd_is_word T) (mg_is_word T) sc_is_word (fun _ _ _ _ _ _ us hl => match us, hl with | [_, _], _ => rfl) (fun vs H Q E h => ?_) (fun cdv A outer s H vs Q E hr h => ?_)
  · obtain ⟨x, t, p, xs, rfl, _⟩ := h
    rfl
  · obtain ⟨x, t, p, xs, rfl, ty, hp, hf, k⟩ := h
    obtain ⟨a, e1, e2⟩ := kit_strW ty
    refine ⟨_, pss_one (ps_ret (pe_and (pe_callB call_isi (by rfl) (fr_isinstance T) (by decide +kernel) (pa_cons (pv 0) (pa_cons (pe_bltn (v := .ty "str") (by rfl) (fr_str T) (by decide +kernel) rfl) pa_nil)))
      (pe_one (pe_cmpR op_in_seq (pv 0) (pv 1) (by rfl))))), ?_⟩
    refine ⟨x, rfl, x, .ty "str", _, _, a, rfl, .ty "str", ty, kit_ty e1, a, rfl, ?_⟩
    rcases e2 with ⟨rfl, z, rfl⟩ | ⟨rfl, e⟩
    · exact iteT ⟨_, rfl, _, rfl, p, xs, rfl, .inr hp, rfl, hf, k⟩
    · rw [e xs] at k
      exact k
/-! is_name -/
def letters : Str := "abcdefghijklmnopqrstuvwxyz"
def isNm : V → Bool
  | .str n => decide (1 ≤ n.length) && (decide (n.length ≤ 8) && n.cps.toList.all fun c => decide (c ∈ letters.cps.toList))
  | _ => false
def sp_is_name (K : PySem.W.Frag) : Sp := fun vs H Q _ => ∃ (x : V) (t : String), vs = [x] ∧ TyX K H x (.type t) ∧ (∀ n, x = .str n → n.length ≤ 1000) ∧ ∀ H', Same H H' → Q (.bl (isNm x)) H'
theorem kit_str2 {K : PySem.W.Frag} {H : Hp} {x : V} {t : String} (ty : TyX K H x (.type t)) : ∃ a : Bool, kitB t "str" = some a ∧ ((a = true ∧ ∃ z, x = .str z) ∨ (a = false ∧ ∀ z, x ≠ .str z)) := by
  cases ty with
  | base h =>
    cases h with
    | str z => exact ⟨true, by decide +kernel, .inl ⟨rfl, z, rfl⟩⟩
    | _ => exact ⟨false, by decide +kernel, .inr ⟨rfl, fun z h => by cases h⟩⟩
  | _ => exact ⟨false, by decide +kernel, .inr ⟨rfl, fun z h => by cases h⟩⟩
theorem ok_is_name (T : Tx K mg) : Callee P w K mg base CX0 1 "is_name" ["value"] [] (sp_is_name K) := by
  refine mkCallee (fd_is_name T) (mg_is_name T) sc_is_name (fun _ _ _ _ _ _ us hl => match us, hl with | [_], _ => rfl) (fun vs H Q E h => ?_) (fun cdv A outer s H vs Q E hr h => ?_)
  · obtain ⟨x, t, rfl, _⟩ := h
    rfl
  · obtain ⟨x, t, rfl, ty, hlen, k⟩ := h
    obtain ⟨tk, gL⟩ := ms_LETTERS T
    obtain ⟨tk2, gN⟩ := mi_LONGEST_NAME T
    obtain ⟨a, e1, e2⟩ := kit_str2 ty
    have nd := sc_is_name.nd
    refine ⟨_, pss_cons (ps_if (PW.pt (pw_or (pt_not (pt_val (pe_callB call_isi (by rfl) (fr_isinstance T) (by decide +kernel) (pa_cons (pv 0) (pa_cons (pe_bltn (v := .ty "str") (by rfl) (fr_str T) (by decide +kernel) rfl) pa_nil)))))
        (pw_or1 (pt_not (pt_chain op_le op_le pe_int (pe_callB call_len_str (by rfl) (fr_len T) PySem.boot_len (pa_cons (pv 0) pa_nil)) (pe_glob (v := .int 8) (by rfl) gN ⟨_, rfl⟩)))))) (pss_one (ps_ret pe_bl)) pss_nil)
      (pss_one (ps_ret (pe_callB (cr_all rfl) (by rfl) (fr_all T) (by decide +kernel) (pa_cons (pe_lc (own := [("letter", 1)]) (g := gName 1) (tt := tYes) rfl nd (pi_str (pv 0)) (blkOk_by (N := ["value", "letter"]) (sc := defScope s_is_name) (by decide +kernel))
        (fun _ _ _ _ _ => pg_name (i := 1) nd rfl (Or.inl rfl)) (fun _ _ _ _ _ => pts_nil) (fun _ _ _ _ _ => pe_cmpR op_in_sign (pv 1) (pe_glob (v := .str letters) (by rfl) gL ⟨_, rfl⟩) (by rfl))) pa_nil)))), ?_⟩
    refine ⟨x, rfl, x, .ty "str", _, _, a, rfl, .ty "str", ty, kit_ty e1, _, rfl, ?_⟩
    rcases e2 with ⟨rfl, z, rfl⟩ | ⟨rfl, hz⟩
    · have hl := hlen z rfl
      refine iteF ⟨_, rfl, z, rfl, Nat.le_trans hl (by decide), _, _, rfl, rfl, decide ((1 : Int) ≤ (z.length : Int)), rfl, ?_⟩
      have e0 : isNm (.str z) = (decide ((1 : Int) ≤ (z.length : Int)) && (decide ((z.length : Int) ≤ 8) && z.cps.toList.all fun c => decide (c ∈ letters.cps.toList))) := by
        have a1 : decide (1 ≤ z.length) = decide ((1 : Int) ≤ (z.length : Int)) := by
          rw [decide_eq_decide]
          omega
        have a2 : decide (z.length ≤ 8) = decide ((z.length : Int) ≤ 8) := by
          rw [decide_eq_decide]
          omega
        show (decide (1 ≤ z.length) && (decide (z.length ≤ 8) && _)) = _
        rw [a1, a2]
      cases h1 : decide ((1 : Int) ≤ (z.length : Int)) with
      | false =>
        have e9 : isNm (.str z) = false := by
          rw [e0, h1]
          rfl
        rw [e9] at k
        exact iteF ⟨false, rfl, iteT (k H (Same.refl _))⟩
      | true =>
        refine iteT ⟨_, _, rfl, rfl, decide ((z.length : Int) ≤ 8), rfl, ?_⟩
        rw [h1] at e0
        cases h2 : decide ((z.length : Int) ≤ 8) with
        | false =>
          have e9 : isNm (.str z) = false := by
            rw [e0, h2]
            rfl
          rw [e9] at k
          exact iteT (k H (Same.refl _))
        | true =>
          rw [h2, Bool.true_and, Bool.true_and] at e0
          rw [e0] at k
          refine iteF (nxt ?_)
          dsimp only
          refine pl_r1 (tlc_S (fun c => .bl (decide (c ∈ letters.cps.toList))) z ?_ ?_ ?_ ?_ ?_)
          · exact fun R r => ⟨_, rfl, r⟩
          · exact Nat.le_trans hl (by decide)
          · exact fun x => rfl
          · exact fun c hc H' s' R r => ⟨_, rfl, c, letters, rfl, rfl, r H' (Same.refl _)⟩
          · intro D H' hD sD hD2
            refine ⟨D, z.cps.toList.map fun c => decide (c ∈ letters.cps.toList), rfl, sqL_of (by rw [List.map_map]; exact hD2), ?_⟩
            rw [List.all_map]
            exact k H' sD
    · have e0 : isNm x = false := by
        cases x with
        | str z => exact absurd rfl (hz z)
        | _ => rfl
      rw [e0] at k
      exact k H (Same.refl _)
/-! is_greatest -/
def isGr : V → Bool
  | .int i => decide (1 ≤ i) && decide (i ≤ 99)
  | _ => false
def sp_is_greatest (K : PySem.W.Frag) : Sp := fun vs H Q _ => ∃ (x : V) (t : String), vs = [x] ∧ TyX K H x (.type t) ∧ Q (.bl (isGr x)) H
theorem ok_is_greatest (T : Tx K mg) : Callee P w K mg base CX0 2 "is_greatest" ["value"] [] (sp_is_greatest K) := by
  have C1 := ok_is_whole (P := P) (w := w) (base := base) T
  refine mkCallee (fd_is_greatest T) (mg_is_greatest T) sc_is_greatest (fun _ _ _ _ _ _ us hl => match us, hl with | [_], _ => rfl) (fun vs H Q E h => ?_) (fun cdv A outer s H vs Q E hr h => ?_)
  · obtain ⟨x, t, rfl, _⟩ := h
    rfl
  · obtain ⟨x, t, rfl, ty, k⟩ := h
    obtain ⟨tk, gM⟩ := mi_MOST_GREATEST T
    refine ⟨_, pss_one (ps_ret (pe_and (pcall C1 hr (pa_cons (pv 0) pa_nil)) (pe_one (pe_chain op_le op_le pe_int (pv 0) (pe_glob (v := .int 99) (by rfl) gM ⟨_, rfl⟩))))), ?_⟩
    refine ⟨x, rfl, x, t, rfl, ty, _, rfl, ?_⟩
    cases x with
    | int i =>
      refine iteT ⟨_, rfl, _, _, rfl, rfl, _, rfl, ?_⟩
      have e : isGr (.int i) = (decide (1 ≤ i) && decide (i ≤ 99)) := rfl
      rw [e] at k
      cases h1 : decide (1 ≤ i) with
      | false =>
        rw [h1] at k
        exact k
      | true =>
        rw [h1] at k
        exact ⟨_, _, rfl, rfl, k⟩
    | _ => exact iteF k
/-! is_value -/
def isVal : V → Bool
  | .non => true
  | .int i => decide (0 ≤ i)
  | _ => false
def sp_is_value (K : PySem.W.Frag) : Sp := fun vs H Q _ => ∃ (x : V) (t : String), vs = [x] ∧ TyX K H x (.type t) ∧ Q (.bl (isVal x)) H
theorem ok_is_value (T : Tx K mg) : Callee P w K mg base CX0 2 "is_value" ["value"] [] (sp_is_value K) := by
  have C1 := ok_is_whole (P := P) (w := w) (base := base) T
  refine mkCallee (fd_is_value T) (mg_is_value T) sc_is_value (fun _ _ _ _ _ _ us hl => match us, hl with | [_], _ => rfl) (fun vs H Q E h => ?_) (fun cdv A outer s H vs Q E hr h => ?_)
  · obtain ⟨x, t, rfl, _⟩ := h
    rfl
  · obtain ⟨x, t, rfl, ty, k⟩ := h
    refine ⟨_, pss_one (ps_ret (pe_or (pe_cmpR op_isN (pv 0) pe_non (nomark _)) (pe_one (pe_and (pcall C1 hr (pa_cons (pv 0) pa_nil)) (pe_one (pe_cmpR op_ge (pv 0) pe_int (nomark _))))))), ?_⟩
    refine ⟨x, rfl, rfl, _, rfl, ?_⟩
    by_cases hx : x = .non
    · subst hx
      exact k
    · rw [decide_eq_false hx]
      refine iteF ⟨x, rfl, x, t, rfl, ty, _, rfl, ?_⟩
      cases x with
      | int i => exact ⟨_, rfl, _, _, rfl, rfl, k⟩
      | non => exact absurd rfl hx
      | _ => exact k
/-! is_within -/
def isIn (g : Int) : V → Bool
  | .non => true
  | .int i => decide (0 ≤ i) && decide (i ≤ g)
  | _ => false
def sp_is_within (K : PySem.W.Frag) : Sp := fun vs H Q _ => ∃ (x : V) (g : Int) (t : String), vs = [x, .int g] ∧ TyX K H x (.type t) ∧ Q (.bl (isIn g x)) H
theorem ok_is_within (T : Tx K mg) : Callee P w K mg base CX0 3 "is_within" ["value", "greatest"] [] (sp_is_within K) := by
  have C1 := ok_is_value (P := P) (w := w) (base := base) T
  refine mkCallee (fd_is_within T) (mg_is_within T) sc_is_within (fun _ _ _ _ _ _ us hl => match us, hl with | [_, _], _ => rfl) (fun vs H Q E h => ?_) (fun cdv A outer s H vs Q E hr h => ?_)
  · obtain ⟨x, g, t, rfl, _⟩ := h
    rfl
  · obtain ⟨x, g, t, rfl, ty, k⟩ := h
    refine ⟨_, pss_one (ps_ret (pe_and (pcall C1 hr (pa_cons (pv 0) pa_nil)) (pe_one (pe_or (pe_cmpR op_isN (pv 0) pe_non (nomark _)) (pe_one (pe_cmpR op_le (pv 0) (pv 1) (nomark _))))))), ?_⟩
    refine ⟨x, rfl, x, t, rfl, ty, _, rfl, ?_⟩
    cases x with
    | non => exact ⟨_, rfl, rfl, _, rfl, k⟩
    | int i =>
      by_cases hi : 0 ≤ i
      · have e : isVal (.int i) = true := decide_eq_true hi
        rw [e]
        refine ⟨_, rfl, rfl, _, rfl, ?_⟩
        refine ⟨_, rfl, _, rfl, _, _, rfl, rfl, ?_⟩
        have e2 : isIn g (.int i) = decide (i ≤ g) := by
          show (decide (0 ≤ i) && decide (i ≤ g)) = _
          rw [decide_eq_true hi, Bool.true_and]
        rw [e2] at k
        exact k
      · have e : isVal (.int i) = false := decide_eq_false hi
        rw [e]
        have e2 : isIn g (.int i) = false := by
          show (decide (0 ≤ i) && decide (i ≤ g)) = _
          rw [decide_eq_false hi, Bool.false_and]
        rw [e2] at k
        exact k
    | _ => exact k
/-! Column.__init__, where its parts fit -/
def colFs (n : Str) (g : Int) (d : V) (k : Int) : List (Str × V) := [("name", .str n), ("greatest", .int g), ("default", d), ("number", .int k)]
theorem colFs_eq (n : Str) (g : Int) (d : V) (k : Int) : putF "number" (.int k) (putF "default" d (putF "greatest" (.int g) (putF "name" (.str n) []))) = colFs n g d k := by
  have h1 : ¬ (("name" : Str) = "greatest") := by decide +kernel
  have h2 : ¬ (("name" : Str) = "default") := by decide +kernel
  have h3 : ¬ (("greatest" : Str) = "default") := by decide +kernel
  have h4 : ¬ (("name" : Str) = "number") := by decide +kernel
  have h5 : ¬ (("greatest" : Str) = "number") := by decide +kernel
  have h6 : ¬ (("default" : Str) = "number") := by decide +kernel
  simp only [putF, if_neg h1, if_neg h2, if_neg h3, if_neg h4, if_neg h5, if_neg h6]
  rfl
theorem put2 (n : Str) (g : Int) : putF "greatest" (.int g) (putF "name" (.str n) []) = ([("name", .str n), ("greatest", .int g)] : List (Str × V)) := by
  have h1 : ¬ (("name" : Str) = "greatest") := by decide +kernel
  simp only [putF, if_neg h1]
theorem put3 (n : Str) (g : Int) (d : V) : putF "default" d (putF "greatest" (.int g) (putF "name" (.str n) [])) = ([("name", .str n), ("greatest", .int g), ("default", d)] : List (Str × V)) := by
  have h2 : ¬ (("name" : Str) = "default") := by decide +kernel
  have h3 : ¬ (("greatest" : Str) = "default") := by decide +kernel
  rw [put2]
  simp only [putF, if_neg h2, if_neg h3]
theorem colFs_name {n : Str} {g : Int} {d : V} {k : Int} : (colFs n g d k).lookup ("name" : Str) = some (.str n) := by
  unfold colFs
  simp [List.lookup]
theorem colFs_greatest {n : Str} {g : Int} {d : V} {k : Int} : (colFs n g d k).lookup ("greatest" : Str) = some (.int g) := by
  have h1 : (("greatest" : Str) == "name") = false := by decide +kernel
  unfold colFs
  simp [List.lookup, h1]
theorem colFs_default {n : Str} {g : Int} {d : V} {k : Int} : (colFs n g d k).lookup ("default" : Str) = some d := by
  have h1 : (("default" : Str) == "name") = false := by decide +kernel
  have h2 : (("default" : Str) == "greatest") = false := by decide +kernel
  unfold colFs
  simp [List.lookup, h1, h2]
theorem colFs_number {n : Str} {g : Int} {d : V} {k : Int} : (colFs n g d k).lookup ("number" : Str) = some (.int k) := by
  have h1 : (("number" : Str) == "name") = false := by decide +kernel
  have h2 : (("number" : Str) == "greatest") = false := by decide +kernel
  have h3 : (("number" : Str) == "default") = false := by decide +kernel
  unfold colFs
  simp [List.lookup, h1, h2, h3]
/-- a Column stands at c -/
def ColAt (K : PySem.W.Frag) (H : Hp) (c : Addr) (n : Str) (g : Int) (d : V) (k : Int) : Prop := ∃ dx, H c = some (.ins (He.ga K "Column") dx (colFs n g d k))
def sp_Col_init (K : PySem.W.Frag) : Sp := fun vs H Q _ => ∃ (c dx : Addr) (n : Str) (g k : Int) (d : V), vs = [.ref c, .str n, .int g, d, .int k] ∧ H c = some (.ins (He.ga K "Column") dx []) ∧ isNm (.str n) = true ∧ isGr (.int g) = true ∧ isIn g d = true ∧ 0 ≤ k ∧
  ∀ H', ColAt K H' c n g d k → (∀ b o, b ≠ c → H b = some o → H' b = some o) → Q .non H'
theorem nm_len {n : Str} (h : isNm (.str n) = true) : n.length ≤ 1000 := by
  have h' : (decide (1 ≤ n.length) && (decide (n.length ≤ 8) && _)) = true := h
  rw [Bool.and_eq_true, Bool.and_eq_true] at h'
  have := of_decide_eq_true h'.2.1
  omega
theorem ok_Col_init (T : Tx K mg) : ∃ fd, FnOk P w K mg base CX0 4 (He.ma K (He.ga K "Column") "__init__") fd ["self", "name", "greatest", "default", "number"] (sp_Col_init K) ∧
    FunD K "__init__" "Column.__init__" (defArgs s_Column___init__) (defBody s_Column___init__) (defScope s_Column___init__) (d_Column___init__.dvs K) (d_Column___init__.kws K) (He.ma K (He.ga K "Column") "__init__") fd := by
  have C1 := (ok_is_name (P := P) (w := w) (base := base) T).up (show 1 ≤ 3 by decide)
  have C2 := (ok_is_greatest (P := P) (w := w) (base := base) T).up (show 2 ≤ 3 by decide)
  have C3 := ok_is_within (P := P) (w := w) (base := base) T
  have C4 := (ok_is_whole (P := P) (w := w) (base := base) T).up (show 1 ≤ 3 by decide)
  obtain ⟨fd, F⟩ := fd_Column___init__ T
  refine ⟨fd, F.ok (CX := CX0) sc_Column___init__ (fun vs H Q E h => ?_) (fun cdv A outer s H vs Q E hr h => ?_), F⟩
  · obtain ⟨c, dx, n, g, k, d, rfl, _⟩ := h
    rfl
  suffices hh : ∃ t, PSs (cxOf CX0 P w K mg base ["self", "name", "greatest", "default", "number"] "Column.__init__" (defScope s_Column___init__) (He.ma K (He.ga K "Column") "__init__") cdv A outer s H E).nox (defBody s_Column___init__) t ∧
      t { nx := fun _ H' => Q .non H', rt := Q } (start ["self", "name", "greatest", "default", "number"] vs) H by
    obtain ⟨t, h1, h2⟩ := hh
    exact ⟨t, h1.nox, h2⟩
  obtain ⟨c, dx, n, g, k, d, rfl, hc, hn, hg, hd, hk, kk⟩ := h
  have cl := cl_Column T
  refine ⟨_, pss_cons (ps_if (pt_not (pt_val (pcall C1 hr (pa_cons (pv 1) pa_nil)))) (pss_one ps_never) pss_nil)
    (pss_cons (ps_if (pt_not (pt_val (pcall C2 hr (pa_cons (pv 2) pa_nil)))) (pss_one ps_never) pss_nil)
    (pss_cons (ps_if (pt_not (pt_val (pcall C3 hr (pa_cons (pv 3) (pa_cons (pv 2) pa_nil))))) (pss_one ps_never) pss_nil)
    (pss_cons (ps_if (PW.pt (pw_or (pt_not (pt_val (pcall C4 hr (pa_cons (pv 4) pa_nil)))) (pw_or1 (pt_cmpR op_lt (pv 4) pe_int (nomark _))))) (pss_one ps_never) pss_nil)
    (pss_cons (ps_fld (pv 0) (pv 1) rfl) (pss_cons (ps_fld (pv 0) (pv 2) rfl) (pss_cons (ps_fld (pv 0) (pv 3) rfl) (pss_one (ps_fld (pv 0) (pv 4) rfl)))))))), ?_⟩
  have td : ∃ t, ∀ H : Hp, TyX K H d (.type t) := by
    cases d with
    | non => exact ⟨_, fun _ => .base .non⟩
    | int i => exact ⟨_, fun _ => .base (.int i)⟩
    | _ => cases hd
  obtain ⟨t, td⟩ := td
  refine ⟨_, rfl, .str n, _, rfl, .base (.str n), fun m e => by cases e; exact nm_len hn, fun H1 s1 => ⟨_, rfl, ?_⟩⟩
  rw [hn]
  refine iteF ⟨_, rfl, .int g, _, rfl, .base (.int g), _, rfl, ?_⟩
  rw [hg]
  refine iteF ⟨_, rfl, _, rfl, d, g, _, rfl, td _, _, rfl, ?_⟩
  rw [hd]
  refine iteF ⟨_, rfl, .int k, _, rfl, .base (.int k), _, rfl, iteF ⟨_, rfl, _, _, rfl, rfl, _, rfl, ?_⟩⟩
  rw [decide_eq_false (show ¬ k < 0 by omega)]
  refine iteF ?_
  have hc1 := s1 _ _ hc
  refine ⟨_, rfl, _, rfl, c, _, dx, _, rfl, hc1, cl, na_Column_name T, (by show 0 < 1000; decide), ?_⟩
  refine ⟨_, rfl, _, rfl, c, _, dx, _, rfl, upd_same, cl, na_Column_greatest T, (by show 1 < 1000; decide), ?_⟩
  refine ⟨_, rfl, _, rfl, c, _, dx, _, rfl, upd_same, cl, na_Column_default T, (by rw [put2]; show 2 < 1000; decide), ?_⟩
  refine ⟨_, rfl, _, rfl, c, _, dx, _, rfl, upd_same, cl, na_Column_number T, (by rw [put3]; show 3 < 1000; decide), ?_⟩
  refine kk _ ⟨dx, ?_⟩ fun b o hb e => by rw [upd_ne hb, upd_ne hb, upd_ne hb, upd_ne hb]; exact s1 _ _ e
  rw [upd_same, colFs_eq]
/-- Column(name, greatest, default) -/
theorem binds_Col3 (T : Tx K mg) {fd : FuncData} (F : FunD K "__init__" "Column.__init__" (defArgs s_Column___init__) (defBody s_Column___init__) (defScope s_Column___init__) (d_Column___init__.dvs K) (d_Column___init__.kws K) (He.ma K (He.ga K "Column") "__init__") fd) :
    ∃ ds, Vals [V.int 0] ds ∧ Binds K fd ["self", "name", "greatest", "default", "number"] ds := by
  have h := F.binds (ps := ["self", "name", "greatest", "default", "number"]) 4 1 (by intro z; cases z) rfl (fun TT D doc pm an cdv ct us its ks h1 h2 h3 => ?_) (by intro z; cases z)
  · exact h
  · match us, h1, its, h2, ks, h3 with
    | [u0, u1, u2, u3], _, [i0], _, [k0], _ => exact ⟨_, rfl, _, _, _, _, _, _, rfl, rfl, rfl⟩
/-! Column.changed, where the part fits -/
def put (part : Str) (v : V) (n : V) (g : V) (d : V) (k : V) : List (Key × V) := putK ([(Sum.inr "name", n), (Sum.inr "greatest", g), (Sum.inr "default", d), (Sum.inr "number", k)] : List (Key × V)) (Sum.inr part) v
/-- what stands under the four names behind it -/
structure Four (part : Str) (v n g d k n' g' d' k' : V) : Prop where
  part_ : part = "name" ∨ part = "greatest" ∨ part = "default" ∨ part = "number"
  eq : (n', g', d', k') = (if part = "name" then (v, g, d, k) else if part = "greatest" then (n, v, d, k) else if part = "default" then (n, g, v, k) else (n, g, d, v))
theorem merge4 (x y z u : V) : mergeK [] [(Sum.inr "name", x), (Sum.inr "greatest", y), (Sum.inr "default", z), (Sum.inr "number", u)] = ([(Sum.inr "name", x), (Sum.inr "greatest", y), (Sum.inr "default", z), (Sum.inr "number", u)] : List (Key × V)) := by
  have h1 : ¬ ((Sum.inr "name" : Key) = (Sum.inr "greatest" : Key)) := by decide +kernel
  have h2 : ¬ ((Sum.inr "name" : Key) = (Sum.inr "default" : Key)) := by decide +kernel
  have h3 : ¬ ((Sum.inr "name" : Key) = (Sum.inr "number" : Key)) := by decide +kernel
  have h4 : ¬ ((Sum.inr "greatest" : Key) = (Sum.inr "default" : Key)) := by decide +kernel
  have h5 : ¬ ((Sum.inr "greatest" : Key) = (Sum.inr "number" : Key)) := by decide +kernel
  have h6 : ¬ ((Sum.inr "default" : Key) = (Sum.inr "number" : Key)) := by decide +kernel
  simp [mergeK, putK, h1, h2, h3, h4, h5, h6]
theorem put_get {part : Str} {v n g d k n' g' d' k' : V} (f : Four part v n g d k n' g' d' k') : valV (put part v n g d k) (Sum.inr "name") = some n' ∧ valV (put part v n g d k) (Sum.inr "greatest") = some g' ∧ valV (put part v n g d k) (Sum.inr "default") = some d' ∧ valV (put part v n g d k) (Sum.inr "number") = some k' := by
  have h1 : ¬ ((Sum.inr "name" : Key) = (Sum.inr "greatest" : Key)) := by decide +kernel
  have h2 : ¬ ((Sum.inr "name" : Key) = (Sum.inr "default" : Key)) := by decide +kernel
  have h3 : ¬ ((Sum.inr "name" : Key) = (Sum.inr "number" : Key)) := by decide +kernel
  have h4 : ¬ ((Sum.inr "greatest" : Key) = (Sum.inr "default" : Key)) := by decide +kernel
  have h5 : ¬ ((Sum.inr "greatest" : Key) = (Sum.inr "number" : Key)) := by decide +kernel
  have h6 : ¬ ((Sum.inr "default" : Key) = (Sum.inr "number" : Key)) := by decide +kernel
  have k1 : ¬ ((Sum.inr "greatest" : Key) = (Sum.inr "name" : Key)) := by decide +kernel
  have k2 : ¬ ((Sum.inr "default" : Key) = (Sum.inr "name" : Key)) := by decide +kernel
  have k3 : ¬ ((Sum.inr "number" : Key) = (Sum.inr "name" : Key)) := by decide +kernel
  have k4 : ¬ ((Sum.inr "default" : Key) = (Sum.inr "greatest" : Key)) := by decide +kernel
  have k5 : ¬ ((Sum.inr "number" : Key) = (Sum.inr "greatest" : Key)) := by decide +kernel
  have k6 : ¬ ((Sum.inr "number" : Key) = (Sum.inr "default" : Key)) := by decide +kernel
  have g1 : ¬ (("greatest" : Str) = "name") := by decide +kernel
  have g2 : ¬ (("default" : Str) = "name") := by decide +kernel
  have g3 : ¬ (("default" : Str) = "greatest") := by decide +kernel
  have g4 : ¬ (("number" : Str) = "name") := by decide +kernel
  have g5 : ¬ (("number" : Str) = "greatest") := by decide +kernel
  have g6 : ¬ (("number" : Str) = "default") := by decide +kernel
  have e := f.eq
  rcases f.part_ with rfl | rfl | rfl | rfl
  · rw [if_pos rfl] at e
    cases e
    simp [put, putK, valV, h1, h2, h3, h4, h5, h6, k1, k2, k3, k4, k5, k6]
  · rw [if_neg g1, if_pos rfl] at e
    cases e
    simp [put, putK, valV, h1, h2, h3, h4, h5, h6, k1, k2, k3, k4, k5, k6]
  · rw [if_neg g2, if_neg g3, if_pos rfl] at e
    cases e
    simp [put, putK, valV, h1, h2, h3, h4, h5, h6, k1, k2, k3, k4, k5, k6]
  · rw [if_neg g4, if_neg g5, if_neg g6] at e
    cases e
    simp [put, putK, valV, h1, h2, h3, h4, h5, h6, k1, k2, k3, k4, k5, k6]
/-- Column(name, greatest, default, number=..) -/
theorem kbinds_Col (T : Tx K mg) {fd : FuncData} (F : FunD K "__init__" "Column.__init__" (defArgs s_Column___init__) (defBody s_Column___init__) (defScope s_Column___init__) (d_Column___init__.dvs K) (d_Column___init__.kws K) (He.ma K (He.ga K "Column") "__init__") fd) :
    ∃ its mv : List Value, KBn K fd ["self", "name", "greatest", "default", "number"] 4 ["number"] (fun us ws => us ++ ws) (fun vs zs => vs ++ zs) := by
  have h := F.kbinds (ps := ["self", "name", "greatest", "default", "number"]) 4 ["number"] [] (fun us its mv ws => us ++ ws) (by intro z; cases z) (by intro z; cases z) (by intro q hq; cases hq) (fun r1 _ _ r4 => r1.append r4) (fun TT D doc pm an cdv ct us its mv ws h1 h2 h3 h4 => ?_)
  · exact h
  · match us, h1, its, h2, mv, h3, ws, h4 with
    | [u0, u1, u2, u3], _, [i0], _, [], _, [w0], _ => exact ⟨_, rfl, rfl⟩
def sp_changed (K : PySem.W.Frag) : Sp := fun vs H Q _ => ∃ (c : Addr) (part n n' : Str) (g k g' k' : Int) (d d' v : V), vs = [.ref c, .str part, v] ∧ ColAt K H c n g d k ∧ Four part v (.str n) (.int g) d (.int k) (.str n') (.int g') d' (.int k') ∧
  isNm (.str n') = true ∧ isGr (.int g') = true ∧ isIn g' d' = true ∧ 0 ≤ k' ∧ ∀ (a : Addr) (H' : Hp), H a = none → Same H H' → ColAt K H' a n' g' d' k' → Q (.ref a) H'
theorem ok_changed (T : Tx K mg) : ∃ fd, FnOk P w K mg base CX0 6 (He.ma K (He.ga K "Column") "changed") fd ["self", "part", "value"] (sp_changed K) ∧ Binds K fd ["self", "part", "value"] [] := by
  obtain ⟨fdI, GI, FI⟩ := ok_Col_init (P := P) (w := w) (base := base) T
  obtain ⟨_, _, kb⟩ := kbinds_Col T FI
  obtain ⟨fd, F⟩ := fd_Column_changed T
  have cl := cl_Column T
  refine ⟨fd, F.ok (CX := CX0) sc_Column_changed (fun vs H Q E h => ?_) (fun cdv A outer s H vs Q E hr h => ?_), F.bindsN fun _ _ _ _ _ _ us hl => match us, hl with | [_, _, _], _ => rfl⟩
  · obtain ⟨c, part, n, n', g, k, g', k', d, d', v, rfl, _⟩ := h
    rfl
  suffices hh : ∃ t, PSs (cxOf CX0 P w K mg base ["self", "part", "value", "parts"] "Column.changed" (defScope s_Column_changed) (He.ma K (He.ga K "Column") "changed") cdv A outer s H E).nox (defBody s_Column_changed) t ∧
      t { nx := fun _ H' => Q .non H', rt := Q } (start ["self", "part", "value", "parts"] vs) H by
    obtain ⟨t, h1, h2⟩ := hh
    exact ⟨t, h1.nox, h2⟩
  obtain ⟨c, part, n, n', g, k, g', k', d, d', v, rfl, ⟨dx, hc⟩, f4, hn, hg, hd, hk, kk⟩ := h
  have nd := sc_Column_changed.nd
  have hu := hu_of hr
  have CW := (ok_is_word (P := P) (w := w) (base := base) T).up (show 1 ≤ 5 by decide)
  refine ⟨_, pss_cons (ps_if (pt_not (pt_val (pcall CW hr (pa_cons (pv 1) (pa_cons (pe_glob (v := .ref (He.ga K "PARTS")) (by rfl) (mg_PARTS T) rfl) pa_nil))))) (pss_one ps_never) pss_nil)
    (pss_cons (ps_set (i := 3) nd rfl (Or.inl rfl) (pe_disp (pps_cons pe_str (pe_fld (pv 0) rfl) (pps_cons pe_str (pe_fld (pv 0) rfl) (pps_cons pe_str (pe_fld (pv 0) rfl) (pps_cons pe_str (pe_fld (pv 0) rfl) pps_nil)))) (by rfl) (by rfl) (fun z => by cases z) (by decide)))
    (pss_cons (ps_dput hu (pv 3) (pv 1) (pv 2) rfl)
    (pss_one (ps_ret (pe_makeK (mk_Column T) GI hr (by rfl) (mg_Column T) kb pass0 (pa_cons (pe_dget hu (pv 3) pe_str (fun _ _ => rfl)) (pa_cons (pe_dget hu (pv 3) pe_str (fun _ _ => rfl)) (pa_cons (pe_dget hu (pv 3) pe_str (fun _ _ => rfl)) pa_nil)))
      (pk_cons (pe_dget hu (pv 3) pe_str (fun _ _ => rfl)) pk_nil)))))), ?_⟩
  have hP : SqT K H (He.ga K "PARTS") [.str "name", .str "greatest", .str "default", .str "number"] := He.tupB_ok (ex_PARTS T) H
  have hin : wordV (.str part) [.str "name", .str "greatest", .str "default", .str "number"] = true := by
    rcases f4.part_ with rfl | rfl | rfl | rfl <;> decide +kernel
  refine ⟨_, rfl, .str part, _, _, _, rfl, .base (.str part), hP, rfl, _, rfl, ?_⟩
  rw [hin]
  refine iteF (nxt ?_)
  refine fun p np => ?_
  have hc1 : ∀ o, upd H p o c = some (.ins (He.ga K "Column") dx (colFs n g d k)) := fun o => same_new np _ _ hc
  refine ⟨_, rfl, c, _, dx, _, _, rfl, hc1 _, cl, na_Column_name T, colFs_name, _, rfl, c, _, dx, _, _, rfl, hc1 _, cl, na_Column_greatest T, colFs_greatest, _, rfl, c, _, dx, _, _, rfl, hc1 _, cl, na_Column_default T, colFs_default,
    _, rfl, c, _, dx, _, _, rfl, hc1 _, cl, na_Column_number T, colFs_number, upd_same, [(Sum.inr "name", .str n), (Sum.inr "greatest", .int g), (Sum.inr "default", d), (Sum.inr "number", .int k)], rfl, (by show 4 ≤ 15; decide), ?_⟩
  rw [upd_upd, merge4]
  refine ⟨_, rfl, _, rfl, _, rfl, p, _, rfl, DPut.k (k := Sum.inr part) upd_same (by show 4 < sizeLine; decide), ?_⟩
  rw [upd_upd]
  obtain ⟨q1, q2, q3, q4⟩ := put_get f4
  have hp : upd H p (.dK (put part v (.str n) (.int g) d (.int k))) p = some (.dK (put part v (.str n) (.int g) d (.int k))) := upd_same
  have s1 : Same H (upd H p (.dK (put part v (.str n) (.int g) d (.int k)))) := same_new np
  have g1 : DGet (upd H p (.dK (put part v (.str n) (.int g) d (.int k)))) p (.str "name") (some (.str n')) := by
    rw [← q1]
    exact DGet.k (k := Sum.inr "name") hp
  have g2 : DGet (upd H p (.dK (put part v (.str n) (.int g) d (.int k)))) p (.str "greatest") (some (.int g')) := by
    rw [← q2]
    exact DGet.k (k := Sum.inr "greatest") hp
  have g3 : DGet (upd H p (.dK (put part v (.str n) (.int g) d (.int k)))) p (.str "default") (some d') := by
    rw [← q3]
    exact DGet.k (k := Sum.inr "default") hp
  have g4 : DGet (upd H p (.dK (put part v (.str n) (.int g) d (.int k)))) p (.str "number") (some (.int k')) := by
    rw [← q4]
    exact DGet.k (k := Sum.inr "number") hp
  refine ⟨_, rfl, p, _, rfl, g1, _, rfl, p, _, rfl, g2, _, rfl, p, _, rfl, g3, _, rfl, p, _, rfl, g4, rfl, rfl, fun x dx2 nx ndx ndc => ?_⟩
  refine ⟨x, dx2, n', g', k', d', rfl, upd_same, hn, hg, hd, hk, fun H4 hc4 k4 => ⟨rfl, ?_⟩⟩
  exact kk x H4 (s1.free nx) (fun b o e => k4 b o (ne_of_none (s1 _ _ e) nx) (by rw [upd_ne (ne_of_none (s1 _ _ e) nx), upd_ne (ne_of_none (s1 _ _ e) ndx)]; exact s1 _ _ e)) hc4
-- needs: Column.__init__
/-! columns of a list, as data -/
structure Col where
  name : Str
  top : Int
  dflt : V
  num : Int
/-- the columns at the addresses as -/
inductive Cols (K : PySem.W.Frag) (H : Hp) : List Addr → List Col → Prop
  | nil : Cols K H [] []
  | cons {a : Addr} {as : List Addr} {c : Col} {cs : List Col} : ColAt K H a c.name c.top c.dflt c.num → Cols K H as cs → Cols K H (a :: as) (c :: cs)
theorem ColAt.keep {K : PySem.W.Frag} {H H' : Hp} {a : Addr} {n : Str} {g k : Int} {d : V} (s : Same H H') (h : ColAt K H a n g d k) : ColAt K H' a n g d k := h.imp fun _ e => s _ _ e
theorem Cols.keep {K : PySem.W.Frag} {H H' : Hp} (s : Same H H') : ∀ {as : List Addr} {cs : List Col}, Cols K H as cs → Cols K H' as cs
  | _, _, .nil => .nil
  | _, _, .cons h t => .cons (h.keep s) (t.keep s)
theorem Cols.len {K : PySem.W.Frag} {H : Hp} : ∀ {as : List Addr} {cs : List Col}, Cols K H as cs → as.length = cs.length
  | _, _, .nil => rfl
  | _, _, .cons _ t => congrArg Nat.succ t.len
theorem Cols.at_ {K : PySem.W.Frag} {H : Hp} : ∀ {as : List Addr} {cs : List Col} {i : Nat} {a : Addr}, Cols K H as cs → as[i]? = some a → ∃ c, cs[i]? = some c ∧ ColAt K H a c.name c.top c.dflt c.num
  | _, _, _, _, .nil, e => by simp at e
  | _, _, 0, _, .cons h t, e => by
    simp at e
    subst e
    exact ⟨_, rfl, h⟩
  | _, _, i + 1, a, .cons h t, e => by
    obtain ⟨c, h1, h2⟩ := Cols.at_ (i := i) (a := a) t (by simpa using e)
    exact ⟨c, by simpa using h1, h2⟩
def isN (n : Str) (c : Col) : Bool := decide (c.name = n)

/-! column_named; the columns of a list, as data -/
/-- what column_named gives: None, or the first of its name -/
def Named (as : List Addr) (cs : List Col) (n : Str) (v : V) : Prop := (v = .non ∧ cs.find? (isN n) = none) ∨ ∃ (i : Nat) (a : Addr) (c : Col), v = .ref a ∧ as[i]? = some a ∧ cs[i]? = some c ∧ cs.find? (isN n) = some c
def sp_column_named (K : PySem.W.Frag) : Sp := fun vs H Q _ => ∃ (l : Addr) (as : List Addr) (cs : List Col) (n : Str), vs = [.ref l, .str n] ∧ (SqL K H l (as.map V.ref) ∨ SqT K H l (as.map V.ref)) ∧ Cols K H as cs ∧ ∀ v, Named as cs n v → Q v H
theorem find_pre {cs : List Col} {i : Nat} {c : Col} {n : Str} (h : cs[i]? = some c) (hp : (cs.take i).find? (isN n) = none) : (cs.take (i + 1)).find? (isN n) = if isN n c = true then some c else none := by
  rw [List.take_add_one, h, List.find?_append, hp]
  show (Option.none).or _ = _
  rw [Option.none_or]
  show (match isN n c with | true => some c | false => none) = _
  cases isN n c <;> rfl
theorem find_take {cs : List Col} {i : Nat} {c : Col} {n : Str} (h : cs[i]? = some c) (hp : (cs.take i).find? (isN n) = none) (hc : isN n c = true) : cs.find? (isN n) = some c := by
  have e : cs = cs.take (i + 1) ++ cs.drop (i + 1) := (List.take_append_drop _ _).symm
  rw [e, List.find?_append, find_pre h hp, if_pos hc]
  rfl
theorem ok_column_named (T : Tx K mg) : Callee P w K mg base CX0 1 "column_named" ["columns", "name"] [] (sp_column_named K) := by
  refine mkCallee (fd_column_named T) (mg_column_named T) sc_column_named (fun _ _ _ _ _ _ us hl => match us, hl with | [_, _], _ => rfl) (fun vs H Q E h => ?_) (fun cdv A outer s H vs Q E hr h => ?_)
  · obtain ⟨l, as, cs, n, rfl, _⟩ := h
    rfl
  · obtain ⟨l, as, cs, n, rfl, hl, hc, k⟩ := h
    have nd := sc_column_named.nd
    have turn : ∀ (i : Nat) (x : V) (y : Option V), (as.map V.ref)[i]? = some x → (cs.take i).find? (isN n) = none → ∃ (a : Addr) (c : Col) (dx : Addr), x = .ref a ∧ as[i]? = some a ∧ cs[i]? = some c ∧ H a = some (.ins (He.ga K "Column") dx (colFs c.name c.top c.dflt c.num)) := fun i x y hx hp => by
      rw [List.getElem?_map] at hx
      cases ha : as[i]? with
      | none =>
        rw [ha] at hx
        cases hx
      | some a =>
        rw [ha] at hx
        obtain ⟨c, h1, dx, h2⟩ := hc.at_ ha
        exact ⟨a, c, dx, (Option.some.inj hx).symm, rfl, h1, h2⟩
    have fin : (cs.take as.length).find? (isN n) = none → Q .non H := fun h => by
      rw [hc.len, List.take_length] at h
      exact k _ (.inl ⟨rfl, h⟩)
    rcases hl with hl | hl
    · refine ⟨_, pss_cons (ps_if (pt_not (pt_val (pe_callB call_isi (by rfl) (fr_isinstance T) (by decide +kernel) (pa_cons (pv 1) (pa_cons (pe_bltn (v := .ty "str") (by rfl) (fr_str T) (by decide +kernel) rfl) pa_nil))))) (pss_one (ps_ret pe_non)) pss_nil)
        (pss_cons (ps_for PassesOwn.never rfl (pi_list (pv 0)) (pg_name (i := 2) nd rfl (Or.inl rfl)) (pss_one (ps_if (pt_cmpR op_eq (pe_fld (pv 2) rfl) (pv 1) (nomark _)) (pss_one (ps_ret (pv 2))) pss_nil))) (pss_one (ps_ret pe_non))), ?_⟩
      refine ⟨_, rfl, .str n, .ty "str", _, _, true, rfl, .ty "str", .base (.str n), kit_ty (by decide +kernel), _, rfl, iteF ⟨_, rfl, l, rfl, ⟨_, hl⟩, ?_⟩⟩
      refine for_list (xs := as.map V.ref) (fun i σ H' => H' = H ∧ (cs.take i).find? (isN n) = none ∧ ∃ y, σ = [some (.ref l), some (.str n), y]) ⟨rfl, rfl, _, rfl⟩ (fun i σ H' _ h => by rw [h.1]; exact hl) ?_ ?_
      · rintro i x σ H' hx ⟨rfl, hp, y, rfl⟩
        obtain ⟨a, c, dx, rfl, ha, hci, hat⟩ := turn i x y hx hp
        refine ⟨_, rfl, a, _, dx, _, _, rfl, hat, cl_Column T, na_Column_name T, colFs_name, _, rfl, rfl, _, rfl, ?_⟩
        by_cases e : c.name = n
        · rw [decide_eq_true (show V.str c.name = V.str n by rw [e])]
          exact iteT ⟨_, rfl, k _ (.inr ⟨i, a, c, rfl, ha, hci, find_take hci hp (decide_eq_true e)⟩)⟩
        · rw [decide_eq_false (fun z => e (V.str.inj z))]
          exact iteF ⟨rfl, by rw [find_pre hci hp, if_neg (by rw [show isN n c = false from decide_eq_false e]; decide)], _, rfl⟩
      · rintro σ H' ⟨rfl, hp, y, rfl⟩
        rw [List.length_map] at hp
        exact fin hp
    · refine ⟨_, pss_cons (ps_if (pt_not (pt_val (pe_callB call_isi (by rfl) (fr_isinstance T) (by decide +kernel) (pa_cons (pv 1) (pa_cons (pe_bltn (v := .ty "str") (by rfl) (fr_str T) (by decide +kernel) rfl) pa_nil))))) (pss_one (ps_ret pe_non)) pss_nil)
        (pss_cons (ps_for PassesOwn.never rfl (pi_tup (pv 0)) (pg_name (i := 2) nd rfl (Or.inl rfl)) (pss_one (ps_if (pt_cmpR op_eq (pe_fld (pv 2) rfl) (pv 1) (nomark _)) (pss_one (ps_ret (pv 2))) pss_nil))) (pss_one (ps_ret pe_non))), ?_⟩
      refine ⟨_, rfl, .str n, .ty "str", _, _, true, rfl, .ty "str", .base (.str n), kit_ty (by decide +kernel), _, rfl, iteF ⟨_, rfl, l, rfl, ⟨_, hl⟩, ?_⟩⟩
      refine for_tup (xs := as.map V.ref) (fun i σ H' => H' = H ∧ (cs.take i).find? (isN n) = none ∧ ∃ y, σ = [some (.ref l), some (.str n), y]) ⟨rfl, rfl, _, rfl⟩ (fun i σ H' _ h => by rw [h.1]; exact hl) ?_ ?_
      · rintro i x σ H' hx ⟨rfl, hp, y, rfl⟩
        obtain ⟨a, c, dx, rfl, ha, hci, hat⟩ := turn i x y hx hp
        refine ⟨_, rfl, a, _, dx, _, _, rfl, hat, cl_Column T, na_Column_name T, colFs_name, _, rfl, rfl, _, rfl, ?_⟩
        by_cases e : c.name = n
        · rw [decide_eq_true (show V.str c.name = V.str n by rw [e])]
          exact iteT ⟨_, rfl, k _ (.inr ⟨i, a, c, rfl, ha, hci, find_take hci hp (decide_eq_true e)⟩)⟩
        · rw [decide_eq_false (fun z => e (V.str.inj z))]
          exact iteF ⟨rfl, by rw [find_pre hci hp, if_neg (by rw [show isN n c = false from decide_eq_false e]; decide)], _, rfl⟩
      · rintro σ H' ⟨rfl, hp, y, rfl⟩
        rw [List.length_map] at hp
        exact fin hp
/-! the changes as data -/
inductive Ch where
  | add (n : Str) (g : Int) (d : V)
  | drop (n : Str)
  | rename (n m : Str)
  | dflt (n : Str) (v : V)
  | great (n : Str) (g : Int) (way : Str)
  | fill (n : Str) (i : Int)
def Ch.toV : Ch → List V
  | .add n g d => [.str "add", .str n, .int g, d]
  | .drop n => [.str "drop", .str n]
  | .rename n m => [.str "rename", .str n, .str m]
  | .dflt n v => [.str "default", .str n, v]
  | .great n g way => [.str "greatest", .str n, .int g, .str way]
  | .fill n i => [.str "fill", .str n, .int i]
def isWy (z : Str) : Bool := decide (z = "cut") || (decide (z = "none") || decide (z = "refuse"))
/-- a change by its form -/
def Ch.fits : Ch → Bool
  | .add n g d => isNm (.str n) && (isGr (.int g) && isVal d)
  | .drop n => isNm (.str n)
  | .rename n m => isNm (.str n) && isNm (.str m)
  | .dflt n v => isNm (.str n) && isVal v
  | .great n g way => isNm (.str n) && (isGr (.int g) && isWy way)
  | .fill n i => isNm (.str n) && decide (0 ≤ i)
def Ch.name : Ch → Str
  | .add n _ _ => n
  | .drop n => n
  | .rename n _ => n
  | .dflt n _ => n
  | .great n _ _ => n
  | .fill n _ => n
def Ch.kind : Ch → Str
  | .add _ _ _ => "add"
  | .drop _ => "drop"
  | .rename _ _ => "rename"
  | .dflt _ _ => "default"
  | .great _ _ _ => "greatest"
  | .fill _ _ => "fill"
theorem Ch.at0 (c : Ch) : atI c.toV 0 = some (.str c.kind) := by cases c <;> rfl
theorem Ch.at1 (c : Ch) : atI c.toV 1 = some (.str c.name) := by cases c <;> rfl
/-! is_way -/
def sp_is_way : Sp := fun vs H Q _ => ∃ z : Str, vs = [.str z] ∧ isWy z = true ∧ Q (.bl true) H
theorem ok_is_way (T : Tx K mg) : Callee P w K mg base CX0 2 "is_way" ["value"] [] sp_is_way := by
  have C1 := ok_is_word (P := P) (w := w) (base := base) T
  refine mkCallee (fd_is_way T) (mg_is_way T) sc_is_way (fun _ _ _ _ _ _ us hl => match us, hl with | [_], _ => rfl) (fun vs H Q E h => ?_) (fun cdv A outer s H vs Q E hr h => ?_)
  · obtain ⟨z, rfl, _⟩ := h
    rfl
  · obtain ⟨z, rfl, hz, k⟩ := h
    refine ⟨_, pss_one (ps_ret (pcall C1 hr (pa_cons (pv 0) (pa_cons (pe_glob (v := .ref (He.ga K "WAYS")) (by rfl) (mg_WAYS T) rfl) pa_nil)))), ?_⟩
    have hw : SqT K H (He.ga K "WAYS") [.str "cut", .str "none", .str "refuse"] := He.tupB_ok (ex_WAYS T) H
    refine ⟨_, rfl, .str z, _, _, _, rfl, .base (.str z), hw, rfl, ?_⟩
    have e : wordV (.str z) [.str "cut", .str "none", .str "refuse"] = true := by
      have h' : (decide (z = "cut") || (decide (z = "none") || decide (z = "refuse"))) = true := hz
      show (("cut" : Str) == z || (("none" : Str) == z || (("refuse" : Str) == z || false))) = true
      rw [Bool.or_eq_true, Bool.or_eq_true, decide_eq_true_iff, decide_eq_true_iff, decide_eq_true_iff] at h'
      rcases h' with rfl | rfl | rfl <;> simp
    rw [e]
    exact k
/-! is_single_part, at what fits -/
def sp_is_single_part : Sp := fun vs H Q _ => ∃ (kd : Str) (x : V), vs = [.str kd, x] ∧ ((kd = "rename" ∧ isNm x = true) ∨ (kd = "default" ∧ isVal x = true) ∨ (kd = "fill" ∧ ∃ i, x = .int i ∧ 0 ≤ i)) ∧ ∀ H', Same H H' → Q (.bl true) H'
theorem ok_is_single_part (T : Tx K mg) : Callee P w K mg base CX0 3 "is_single_part" ["kind", "part"] [] sp_is_single_part := by
  have C1 := (ok_is_name (P := P) (w := w) (base := base) T).up (show 1 ≤ 2 by decide)
  have C2 := ok_is_value (P := P) (w := w) (base := base) T
  have C3 := (ok_is_whole (P := P) (w := w) (base := base) T).up (show 1 ≤ 2 by decide)
  refine mkCallee (fd_is_single_part T) (mg_is_single_part T) sc_is_single_part (fun _ _ _ _ _ _ us hl => match us, hl with | [_, _], _ => rfl) (fun vs H Q E h => ?_) (fun cdv A outer s H vs Q E hr h => ?_)
  · obtain ⟨kd, x, rfl, _⟩ := h
    rfl
  · obtain ⟨kd, x, rfl, hx, k⟩ := h
    refine ⟨_, pss_cons (ps_if (pt_cmpR op_eq (pv 0) pe_str (nomark _)) (pss_one (ps_ret (pcall C1 hr (pa_cons (pv 1) pa_nil)))) pss_nil)
      (pss_cons (ps_if (pt_cmpR op_eq (pv 0) pe_str (nomark _)) (pss_one (ps_ret (pcall C2 hr (pa_cons (pv 1) pa_nil)))) pss_nil)
      (pss_one (ps_ret (pe_and (pcall C3 hr (pa_cons (pv 1) pa_nil)) (pe_one (pe_cmpR op_ge (pv 1) pe_int (nomark _))))))), ?_⟩
    refine ⟨_, rfl, rfl, _, rfl, ?_⟩
    rcases hx with ⟨rfl, hx⟩ | ⟨rfl, hx⟩ | ⟨rfl, i, rfl, hi⟩
    · rw [decide_eq_true rfl]
      cases x with
      | str z => exact iteT ⟨_, rfl, .str z, _, rfl, .base (.str z), fun m e => by cases e; exact nm_len hx, fun H' s' => by rw [hx]; exact k H' s'⟩
      | _ => cases hx
    · rw [decide_eq_false (by decide +kernel)]
      refine iteF ⟨_, rfl, rfl, _, rfl, ?_⟩
      rw [decide_eq_true rfl]
      cases x with
      | non => exact iteT ⟨_, rfl, .non, _, rfl, .base .non, k H (Same.refl _)⟩
      | int i => exact iteT ⟨_, rfl, .int i, _, rfl, .base (.int i), by rw [hx]; exact k H (Same.refl _)⟩
      | _ => cases hx
    · rw [decide_eq_false (by decide +kernel)]
      refine iteF ⟨_, rfl, rfl, _, rfl, ?_⟩
      rw [decide_eq_false (by decide +kernel)]
      refine iteF ⟨_, rfl, .int i, _, rfl, .base (.int i), _, rfl, iteT ⟨_, rfl, _, _, rfl, rfl, ?_⟩⟩
      show Q (.bl (decide (0 ≤ i))) H
      rw [decide_eq_true hi]
      exact k H (Same.refl _)
/-! has_parts, at what fits: the parts behind the first name -/
def sp_has_parts (K : PySem.W.Frag) : Sp := fun vs H Q _ => ∃ (t : Addr) (c : Ch), vs = [.str c.kind, .ref t] ∧ SqT K H t (c.toV.drop 2) ∧ c.fits = true ∧ ∀ H', Same H H' → Q (.bl true) H'
theorem ok_has_parts (T : Tx K mg) : Callee P w K mg base CX0 4 "has_parts" ["kind", "parts"] [] (sp_has_parts K) := by
  have C1 := ok_is_single_part (P := P) (w := w) (base := base) T
  have C2 := (ok_is_greatest (P := P) (w := w) (base := base) T).up (show 2 ≤ 3 by decide)
  have C3 := (ok_is_value (P := P) (w := w) (base := base) T).up (show 2 ≤ 3 by decide)
  have C4 := (ok_is_way (P := P) (w := w) (base := base) T).up (show 2 ≤ 3 by decide)
  refine mkCallee (fd_has_parts T) (mg_has_parts T) sc_has_parts (fun _ _ _ _ _ _ us hl => match us, hl with | [_, _], _ => rfl) (fun vs H Q E h => ?_) (fun cdv A outer s H vs Q E hr h => ?_)
  · obtain ⟨t, c, rfl, _⟩ := h
    rfl
  · obtain ⟨t, c, rfl, ht, hf, k⟩ := h
    have gl : mg "len" = none := fr_len T
    refine ⟨_, pss_cons (ps_if (pt_cmpR op_eq (pv 0) pe_str (nomark _)) (pss_one (ps_ret (pe_cmpR op_eq (pe_callB call_len (by rfl) gl PySem.boot_len (pa_cons (pv 1) pa_nil)) pe_int (nomark _)))) pss_nil)
      (pss_cons (ps_if (pt_cmpR op_in_seq (pv 0) (pe_tup (pa_cons pe_str (pa_cons pe_str (pa_cons pe_str pa_nil)))) (by rfl)) (pss_one (ps_ret (pe_and (pe_cmpR op_eq (pe_callB call_len (by rfl) gl PySem.boot_len (pa_cons (pv 1) pa_nil)) pe_int (nomark _))
          (pe_one (pcall C1 hr (pa_cons (pv 0) (pa_cons (pe_ix ix_tup (pv 1) pe_int (fun _ _ => rfl)) pa_nil))))))) pss_nil)
      (pss_cons (ps_if (pt_cmpR op_eq (pv 0) pe_str (nomark _)) (pss_one (ps_ret (pe_and (pe_cmpR op_eq (pe_callB call_len (by rfl) gl PySem.boot_len (pa_cons (pv 1) pa_nil)) pe_int (nomark _))
          (pe_and (pcall C2 hr (pa_cons (pe_ix ix_tup (pv 1) pe_int (fun _ _ => rfl)) pa_nil)) (pe_one (pcall C3 hr (pa_cons (pe_ix ix_tup (pv 1) pe_int (fun _ _ => rfl)) pa_nil))))))) pss_nil)
      (pss_cons (ps_if (pt_cmpR op_eq (pv 0) pe_str (nomark _)) (pss_one (ps_ret (pe_and (pe_cmpR op_eq (pe_callB call_len (by rfl) gl PySem.boot_len (pa_cons (pv 1) pa_nil)) pe_int (nomark _))
          (pe_and (pcall C2 hr (pa_cons (pe_ix ix_tup (pv 1) pe_int (fun _ _ => rfl)) pa_nil)) (pe_one (pcall C4 hr (pa_cons (pe_ix ix_tup (pv 1) pe_int (fun _ _ => rfl)) pa_nil))))))) pss_nil)
      (pss_one (ps_ret pe_bl))))), ?_⟩
    cases c with
    | drop n =>
      refine ⟨_, rfl, rfl, _, rfl, iteT ⟨_, rfl, _, 0, rfl, .inr ⟨_, ht, rfl⟩, rfl, ?_⟩⟩
      exact k H (Same.refl _)
    | rename n m =>
      have hf' : (isNm (.str n) && isNm (.str m)) = true := hf
      rw [Bool.and_eq_true] at hf'
      refine ⟨_, rfl, rfl, _, rfl, ?_⟩
      refine iteD (nes (show ("rename" : Str) ≠ "drop" by decide +kernel)) ⟨_, rfl, (by show 3 ≤ sizeLine; decide), fun t2 nt2 => ⟨t2, _, rfl, .inr (sqT_of upd_same), rfl, rfl, _, rfl, iteT ?_⟩⟩
      have s2 := same_new (o := .tup [V.str "rename", .str "default", .str "fill"]) nt2
      refine ⟨_, rfl, _, 1, rfl, .inr ⟨_, same_tup s2 ht, rfl⟩, rfl, _, rfl, iteT ⟨_, rfl, _, rfl, t, _, 0, _, rfl, rfl, same_tup s2 ht, rfl, _, _, rfl, .inl ⟨rfl, hf'.2⟩, fun H' s' => k H' (s2.trans s')⟩⟩
    | dflt n v =>
      have hf' : (isNm (.str n) && isVal v) = true := hf
      rw [Bool.and_eq_true] at hf'
      refine ⟨_, rfl, rfl, _, rfl, ?_⟩
      refine iteD (nes (show ("default" : Str) ≠ "drop" by decide +kernel)) ⟨_, rfl, (by show 3 ≤ sizeLine; decide), fun t2 nt2 => ⟨t2, _, rfl, .inr (sqT_of upd_same), rfl, rfl, _, rfl, iteT ?_⟩⟩
      have s2 := same_new (o := .tup [V.str "rename", .str "default", .str "fill"]) nt2
      refine ⟨_, rfl, _, 1, rfl, .inr ⟨_, same_tup s2 ht, rfl⟩, rfl, _, rfl, iteT ⟨_, rfl, _, rfl, t, _, 0, _, rfl, rfl, same_tup s2 ht, rfl, _, _, rfl, .inr (.inl ⟨rfl, hf'.2⟩), fun H' s' => k H' (s2.trans s')⟩⟩
    | fill n i =>
      have hf' : (isNm (.str n) && decide (0 ≤ i)) = true := hf
      rw [Bool.and_eq_true] at hf'
      refine ⟨_, rfl, rfl, _, rfl, ?_⟩
      refine iteD (nes (show ("fill" : Str) ≠ "drop" by decide +kernel)) ⟨_, rfl, (by show 3 ≤ sizeLine; decide), fun t2 nt2 => ⟨t2, _, rfl, .inr (sqT_of upd_same), rfl, rfl, _, rfl, iteT ?_⟩⟩
      have s2 := same_new (o := .tup [V.str "rename", .str "default", .str "fill"]) nt2
      refine ⟨_, rfl, _, 1, rfl, .inr ⟨_, same_tup s2 ht, rfl⟩, rfl, _, rfl, iteT ⟨_, rfl, _, rfl, t, _, 0, _, rfl, rfl, same_tup s2 ht, rfl, _, _, rfl, .inr (.inr ⟨rfl, i, rfl, of_decide_eq_true hf'.2⟩), fun H' s' => k H' (s2.trans s')⟩⟩
    | add n g d =>
      have hf' : (isNm (.str n) && (isGr (.int g) && isVal d)) = true := hf
      rw [Bool.and_eq_true, Bool.and_eq_true] at hf'
      refine ⟨_, rfl, rfl, _, rfl, ?_⟩
      refine iteD (nes (show ("add" : Str) ≠ "drop" by decide +kernel)) ⟨_, rfl, (by show 3 ≤ sizeLine; decide), fun t2 nt2 => ⟨t2, _, rfl, .inr (sqT_of upd_same), rfl, rfl, _, rfl, iteF ?_⟩⟩
      have s2 := same_new (o := .tup [V.str "rename", .str "default", .str "fill"]) nt2
      refine ⟨_, rfl, rfl, _, rfl, iteT ⟨_, rfl, _, 2, rfl, .inr ⟨_, same_tup s2 ht, rfl⟩, rfl, _, rfl, iteT ⟨_, rfl, t, _, 0, _, rfl, rfl, same_tup s2 ht, rfl, .int g, _, rfl, .base (.int g), _, rfl, ?_⟩⟩⟩
      rw [hf'.2.1]
      have td : ∃ ty, TyX K (upd H t2 (.tup [V.str "rename", .str "default", .str "fill"])) d (.type ty) := by
        cases d with
        | non => exact ⟨_, .base .non⟩
        | int i => exact ⟨_, .base (.int i)⟩
        | _ => cases hf'.2.2
      obtain ⟨ty, td⟩ := td
      refine iteT ⟨_, rfl, t, _, 1, _, rfl, rfl, same_tup s2 ht, rfl, d, ty, rfl, td, ?_⟩
      rw [hf'.2.2]
      exact k _ s2
    | great n g way =>
      have hf' : (isNm (.str n) && (isGr (.int g) && isWy way)) = true := hf
      rw [Bool.and_eq_true, Bool.and_eq_true] at hf'
      refine ⟨_, rfl, rfl, _, rfl, ?_⟩
      refine iteD (nes (show ("greatest" : Str) ≠ "drop" by decide +kernel)) ⟨_, rfl, (by show 3 ≤ sizeLine; decide), fun t2 nt2 => ⟨t2, _, rfl, .inr (sqT_of upd_same), rfl, rfl, _, rfl, iteF ?_⟩⟩
      have s2 := same_new (o := .tup [V.str "rename", .str "default", .str "fill"]) nt2
      refine ⟨_, rfl, rfl, _, rfl, ?_⟩
      refine iteD (nes (show ("greatest" : Str) ≠ "add" by decide +kernel)) ⟨_, rfl, rfl, _, rfl, iteT ⟨_, rfl, _, 2, rfl, .inr ⟨_, same_tup s2 ht, rfl⟩, rfl, _, rfl, iteT ⟨_, rfl, t, _, 0, _, rfl, rfl, same_tup s2 ht, rfl, .int g, _, rfl, .base (.int g), _, rfl, ?_⟩⟩⟩
      rw [hf'.2.1]
      exact iteT ⟨_, rfl, t, _, 1, _, rfl, rfl, same_tup s2 ht, rfl, way, rfl, hf'.2.2, k _ s2⟩
/-! is_change, at what fits -/
/-- a change stands at t -/
def ChAt (K : PySem.W.Frag) (H : Hp) (t : Addr) (c : Ch) : Prop := SqT K H t c.toV
theorem ChAt.keep {K : PySem.W.Frag} {H H' : Hp} {t : Addr} {c : Ch} (s : Same H H') (h : ChAt K H t c) : ChAt K H' t c := same_tup s h
theorem Ch.nm {c : Ch} (h : c.fits = true) : isNm (.str c.name) = true := by
  cases c <;> first | exact h | exact (Bool.and_eq_true_iff.mp h).1
theorem Ch.len (c : Ch) : 2 ≤ c.toV.length := by cases c <;> simp [Ch.toV]
theorem sqT_tup {K : PySem.W.Frag} {H : Hp} {a : Addr} {xs : List V} (h : SqT K H a xs) : TyX K H (.ref a) (.type "tuple") := by
  rcases h with (h | ⟨o, h⟩) | ⟨o, its, n, h, hc, _⟩
  · exact .base (.tup h)
  · exact .fTuple h
  · exact .kTuple h hc
def sp_is_change (K : PySem.W.Frag) : Sp := fun vs H Q _ => ∃ (t : Addr) (c : Ch), vs = [.ref t] ∧ ChAt K H t c ∧ c.fits = true ∧ ∀ H', Same H H' → Q (.bl true) H'
theorem six2 {n : Nat} (h : 2 ≤ n) : HT.sIx n 0 (some 2) = 2 := by
  have e := HT.sIx_nat n 0 2
  have e2 : ((2 : Nat) : Int) = 2 := rfl
  rw [e2] at e
  rw [e]
  omega
theorem cut2 (c : Ch) : cutV c.toV (some 2) none = c.toV.drop 2 := by
  have h := c.len
  unfold cutV
  rw [six2 h, HT.sIx_none]
  exact List.take_of_length_le (by rw [List.length_drop]; exact Nat.le_refl _)
theorem ok_is_change (T : Tx K mg) : Callee P w K mg base CX0 5 "is_change" ["value"] [] (sp_is_change K) := by
  have C1 := (ok_is_name (P := P) (w := w) (base := base) T).up (show 1 ≤ 4 by decide)
  have C2 := ok_has_parts (P := P) (w := w) (base := base) T
  refine mkCallee (fd_is_change T) (mg_is_change T) sc_is_change (fun _ _ _ _ _ _ us hl => match us, hl with | [_], _ => rfl) (fun vs H Q E h => ?_) (fun cdv A outer s H vs Q E hr h => ?_)
  · obtain ⟨t, c, rfl, _⟩ := h
    rfl
  · obtain ⟨t, c, rfl, ht, hf, k⟩ := h
    refine ⟨_, pss_cons (ps_if (PW.pt (pw_or (pt_not (pt_val (pe_callB call_isi (by rfl) (fr_isinstance T) (by decide +kernel) (pa_cons (pv 0) (pa_cons (pe_bltn (v := .ty "tuple") (by rfl) (fr_tuple T) (by decide +kernel) rfl) pa_nil)))))
        (pw_or1 (pt_cmpR op_lt (pe_callB call_len (by rfl) (fr_len T) PySem.boot_len (pa_cons (pv 0) pa_nil)) pe_int (nomark _))))) (pss_one (ps_ret pe_bl)) pss_nil)
      (pss_one (ps_ret (pe_and (pe_callB call_isi (by rfl) (fr_isinstance T) (by decide +kernel) (pa_cons (pe_ix ix_tup (pv 0) pe_int (fun _ _ => rfl)) (pa_cons (pe_bltn (v := .ty "str") (by rfl) (fr_str T) (by decide +kernel) rfl) pa_nil)))
        (pe_and (pcall C1 hr (pa_cons (pe_ix ix_tup (pv 0) pe_int (fun _ _ => rfl)) pa_nil)) (pe_one (pcall C2 hr (pa_cons (pe_ix ix_tup (pv 0) pe_int (fun _ _ => rfl)) (pa_cons (pe_slice sl_tup (pv 0) (po_some pe_int) po_none) pa_nil)))))))), ?_⟩
    have hl := c.len
    refine ⟨_, rfl, .ref t, .ty "tuple", _, _, true, rfl, .ty "tuple", sqT_tup ht, kit_ty (by decide +kernel), _, rfl, iteF ⟨_, rfl, _, c.toV.length, rfl, .inr ⟨_, ht, rfl⟩, _, _, rfl, rfl, _, rfl, iteD (by omega) ?_⟩⟩
    refine ⟨_, rfl, t, _, 0, _, rfl, rfl, ht, c.at0, .str c.kind, .ty "str", _, _, true, rfl, .ty "str", .base (.str _), kit_ty (by decide +kernel), _, rfl, iteT ?_⟩
    have hn := Ch.nm hf
    refine ⟨_, rfl, t, _, 1, _, rfl, rfl, ht, c.at1, .str c.name, _, rfl, .base (.str _), fun n e => by cases e; exact nm_len hn, fun H1 s1 => ⟨_, rfl, ?_⟩⟩
    rw [hn]
    refine iteT ⟨_, rfl, t, _, 0, _, rfl, rfl, same_tup s1 ht, c.at0, _, rfl, 2, rfl, t, _, rfl, same_tup s1 ht, fun z => by rw [six2 hl] at z; exact absurd z.1 (by decide), fun p np => ?_⟩
    rw [cut2]
    exact ⟨p, c, rfl, sqT_of upd_same, hf, fun H' s' => k H' ((s1.trans (same_new np)).trans s')⟩
/-! value_above -/
/-- what a value above becomes -/
def abv (g : Int) (way : Str) : V := if way = "cut" then .int g else if way = "none" then .non else .str "missing"
def sp_value_above (K : PySem.W.Frag) : Sp := fun vs H Q _ => ∃ (t : Addr) (n way : Str) (g : Int), vs = [.ref t] ∧ ChAt K H t (.great n g way) ∧ Q (abv g way) H
theorem ok_value_above (T : Tx K mg) : Callee P w K mg base CX0 1 "value_above" ["change"] [] (sp_value_above K) := by
  refine mkCallee (fd_value_above T) (mg_value_above T) sc_value_above (fun _ _ _ _ _ _ us hl => match us, hl with | [_], _ => rfl) (fun vs H Q E h => ?_) (fun cdv A outer s H vs Q E hr h => ?_)
  · obtain ⟨t, n, way, g, rfl, _⟩ := h
    rfl
  · obtain ⟨t, n, way, g, rfl, ht, k⟩ := h
    obtain ⟨tk, gM⟩ := ms_MISSING T
    refine ⟨_, pss_cons (ps_if (pt_cmpR op_eq (pe_ix ix_tup (pv 0) pe_int (fun _ _ => rfl)) pe_str (nomark _)) (pss_one (ps_ret (pe_ix ix_tup (pv 0) pe_int (fun _ _ => rfl)))) pss_nil)
      (pss_cons (ps_if (pt_cmpR op_eq (pe_ix ix_tup (pv 0) pe_int (fun _ _ => rfl)) pe_str (nomark _)) (pss_one (ps_ret pe_non)) pss_nil) (pss_one (ps_ret (pe_glob (v := .str "missing") (by rfl) gM ⟨_, rfl⟩)))), ?_⟩
    have i3 : atI (Ch.great n g way).toV 3 = some (.str way) := rfl
    have i2 : atI (Ch.great n g way).toV 2 = some (.int g) := rfl
    refine ⟨_, rfl, t, _, 3, _, rfl, rfl, ht, i3, rfl, _, rfl, ?_⟩
    unfold abv at k
    by_cases h1 : way = "cut"
    · rw [if_pos h1] at k
      subst h1
      exact iteDT rfl ⟨_, rfl, t, _, 2, _, rfl, rfl, ht, i2, k⟩
    · rw [if_neg h1] at k
      refine iteD (nes h1) ⟨_, rfl, t, _, 3, _, rfl, rfl, ht, i3, rfl, _, rfl, ?_⟩
      by_cases h2 : way = "none"
      · rw [if_pos h2] at k
        subst h2
        exact iteDT rfl k
      · rw [if_neg h2] at k
        exact iteD (nes h2) k
/-! None or an int -/
/-- None or an int -/
def valOk : V → Bool
  | .non => true
  | .int _ => true
  | _ => false

/-! changed_value -/
/-- what a value of a column of this name becomes -/
def chgV (n : Str) (c : Ch) (v : V) : V := if c.name = n then (match c, v with
  | .fill _ i, .non => .int i
  | .great _ g way, .int j => if g < j then abv g way else .int j
  | _, v => v) else v
def sp_changed_value (K : PySem.W.Frag) : Sp := fun vs H Q _ => ∃ (a t : Addr) (n : Str) (g k : Int) (d v : V) (c : Ch), vs = [.ref a, .ref t, v] ∧ ColAt K H a n g d k ∧ ChAt K H t c ∧ valOk v = true ∧ Q (chgV n c v) H
theorem ok_changed_value (T : Tx K mg) : Callee P w K mg base CX0 2 "changed_value" ["column", "change", "value"] [] (sp_changed_value K) := by
  have C1 := ok_value_above (P := P) (w := w) (base := base) T
  refine mkCallee (fd_changed_value T) (mg_changed_value T) sc_changed_value (fun _ _ _ _ _ _ us hl => match us, hl with | [_, _, _], _ => rfl) (fun vs H Q E h => ?_) (fun cdv A outer s H vs Q E hr h => ?_)
  · obtain ⟨a, t, n, g, k, d, v, c, rfl, _⟩ := h
    rfl
  · obtain ⟨a, t, n, g, k, d, v, c, rfl, ⟨dx, ha⟩, ht, hv, kk⟩ := h
    refine ⟨_, pss_cons (ps_if (pt_cmpR op_ne (pe_ix ix_tup (pv 1) pe_int (fun _ _ => rfl)) (pe_fld (pv 0) rfl) (nomark _)) (pss_one (ps_ret (pv 2))) pss_nil)
      (pss_cons (ps_if (PW.pt (pw_and (pt_cmpR op_eq (pe_ix ix_tup (pv 1) pe_int (fun _ _ => rfl)) pe_str (nomark _)) (pw_and1 (pt_cmpR op_isN (pv 2) pe_non (nomark _))))) (pss_one (ps_ret (pe_ix ix_tup (pv 1) pe_int (fun _ _ => rfl)))) pss_nil)
      (pss_cons (ps_if (PW.pt (pw_and (pt_cmpR op_eq (pe_ix ix_tup (pv 1) pe_int (fun _ _ => rfl)) pe_str (nomark _)) (pw_and (pt_cmpR op_notN (pv 2) pe_non (nomark _)) (pw_and1 (pt_cmpR op_gt (pv 2) (pe_ix ix_tup (pv 1) pe_int (fun _ _ => rfl)) (nomark _))))))
        (pss_one (ps_ret (pcall C1 hr (pa_cons (pv 1) pa_nil)))) pss_nil)
      (pss_one (ps_ret (pv 2))))), ?_⟩
    refine ⟨_, rfl, t, _, 1, _, rfl, rfl, ht, c.at1, _, rfl, a, _, dx, _, _, rfl, ha, cl_Column T, na_Column_name T, colFs_name, rfl, _, rfl, ?_⟩
    unfold chgV at kk
    by_cases hn : c.name = n
    · rw [if_pos hn] at kk
      refine iteNS (by rw [hn]) ?_
      cases c with
      | add n2 g2 d2 =>
        refine ⟨_, rfl, t, _, 0, _, rfl, rfl, ht, rfl, rfl, _, rfl, iteD (nes (show ("add" : Str) ≠ "fill" by decide +kernel)) (iteF ?_)⟩
        exact ⟨_, rfl, t, _, 0, _, rfl, rfl, ht, rfl, rfl, _, rfl, iteD (nes (show ("add" : Str) ≠ "greatest" by decide +kernel)) (iteF ⟨_, rfl, kk⟩)⟩
      | drop n2 =>
        refine ⟨_, rfl, t, _, 0, _, rfl, rfl, ht, rfl, rfl, _, rfl, iteD (nes (show ("drop" : Str) ≠ "fill" by decide +kernel)) (iteF ?_)⟩
        exact ⟨_, rfl, t, _, 0, _, rfl, rfl, ht, rfl, rfl, _, rfl, iteD (nes (show ("drop" : Str) ≠ "greatest" by decide +kernel)) (iteF ⟨_, rfl, kk⟩)⟩
      | rename n2 m2 =>
        refine ⟨_, rfl, t, _, 0, _, rfl, rfl, ht, rfl, rfl, _, rfl, iteD (nes (show ("rename" : Str) ≠ "fill" by decide +kernel)) (iteF ?_)⟩
        exact ⟨_, rfl, t, _, 0, _, rfl, rfl, ht, rfl, rfl, _, rfl, iteD (nes (show ("rename" : Str) ≠ "greatest" by decide +kernel)) (iteF ⟨_, rfl, kk⟩)⟩
      | dflt n2 v2 =>
        refine ⟨_, rfl, t, _, 0, _, rfl, rfl, ht, rfl, rfl, _, rfl, iteD (nes (show ("default" : Str) ≠ "fill" by decide +kernel)) (iteF ?_)⟩
        exact ⟨_, rfl, t, _, 0, _, rfl, rfl, ht, rfl, rfl, _, rfl, iteD (nes (show ("default" : Str) ≠ "greatest" by decide +kernel)) (iteF ⟨_, rfl, kk⟩)⟩
      | fill n2 i =>
        refine ⟨_, rfl, t, _, 0, _, rfl, rfl, ht, rfl, rfl, _, rfl, iteDT rfl ⟨_, rfl, rfl, _, rfl, ?_⟩⟩
        cases v with
        | non => exact iteDT rfl ⟨_, rfl, t, _, 2, _, rfl, rfl, ht, rfl, kk⟩
        | int j =>
          refine iteD (by intro z; cases z) ?_
          exact ⟨_, rfl, t, _, 0, _, rfl, rfl, ht, rfl, rfl, _, rfl, iteD (nes (show ("fill" : Str) ≠ "greatest" by decide +kernel)) (iteF ⟨_, rfl, kk⟩)⟩
        | _ => cases hv
      | great n2 g2 way =>
        refine ⟨_, rfl, t, _, 0, _, rfl, rfl, ht, rfl, rfl, _, rfl, iteD (nes (show ("greatest" : Str) ≠ "fill" by decide +kernel)) (iteF ?_)⟩
        refine ⟨_, rfl, t, _, 0, _, rfl, rfl, ht, rfl, rfl, _, rfl, iteDT rfl ⟨_, rfl, rfl, _, rfl, ?_⟩⟩
        cases v with
        | non => exact iteNS rfl (iteF ⟨_, rfl, kk⟩)
        | int j =>
          refine iteNF (by intro z; cases z) ⟨_, rfl, _, rfl, t, _, 2, _, rfl, rfl, ht, rfl, _, _, rfl, rfl, _, rfl, ?_⟩
          by_cases hj : g2 < j
          · refine iteDT hj ⟨_, rfl, t, n2, way, g2, rfl, ht, ?_⟩
            have e : (if g2 < j then abv g2 way else V.int j) = abv g2 way := if_pos hj
            rw [← e]
            exact kk
          · refine iteD hj ⟨_, rfl, ?_⟩
            have e : (if g2 < j then abv g2 way else V.int j) = V.int j := if_neg hj
            rw [← e]
            exact kk
        | _ => cases hv
    · rw [if_neg hn] at kk
      exact iteNF (nes hn) ⟨_, rfl, kk⟩
-- needs: +COLS
/-! a column at an address -/
def ColA (K : PySem.W.Frag) (H : Hp) (a : Addr) (c : Col) : Prop := ColAt K H a c.name c.top c.dflt c.num
theorem ColA.keep {K : PySem.W.Frag} {H H' : Hp} {a : Addr} {c : Col} (s : Same H H') (h : ColA K H a c) : ColA K H' a c := h.imp fun _ e => s _ _ e
theorem ColA.keepNL {K : PySem.W.Frag} {H H' : Hp} {a : Addr} {c : Col} (s : KeepNL H H') (h : ColA K H a c) : ColA K H' a c := h.imp fun _ e => s _ _ (fun _ z => by cases z) e

/-! changed_column -/
/-- a column's parts fit -/
structure ColOk (c : Col) : Prop where
  nm : isNm (.str c.name) = true
  gr : isGr (.int c.top) = true
  df : isIn c.top c.dflt = true
  nu : 0 ≤ c.num
/-- what a change of a column that does not drop it makes of it -/
def chgC (c : Col) (ch : Ch) : Col := match ch with
  | .rename _ m => { c with name := m }
  | .dflt _ v => { c with dflt := v }
  | .great n g way => { c with top := g, dflt := chgV c.name (.great n g way) c.dflt }
  | _ => c
theorem isIn_ok {g : Int} {v : V} (h : isIn g v = true) : valOk v = true := by
  cases v with
  | non => rfl
  | int _ => rfl
  | _ => cases h
def sp_changed_column (K : PySem.W.Frag) : Sp := fun vs H Q _ => ∃ (a t : Addr) (c : Col) (ch : Ch), vs = [.ref a, .ref t] ∧ ColA K H a c ∧ ChAt K H t ch ∧ ColOk c ∧ ColOk (chgC c ch) ∧ ∀ (a' : Addr) (H' : Hp), Same H H' → ColA K H' a' (chgC c ch) → Q (.ref a') H'
theorem ok_changed_column (T : Tx K mg) : Callee P w K mg base CX0 7 "changed_column" ["column", "change"] [] (sp_changed_column K) := by
  obtain ⟨fdC, GC, bC⟩ := ok_changed (P := P) (w := w) (base := base) T
  obtain ⟨fdI, GI, FI⟩ := ok_Col_init (P := P) (w := w) (base := base) T
  obtain ⟨_, _, kb⟩ := kbinds_Col T FI
  have C1 := (ok_changed_value (P := P) (w := w) (base := base) T).up (show 2 ≤ 6 by decide)
  have cl := cl_Column T
  refine mkCallee (fd_changed_column T) (mg_changed_column T) sc_changed_column (fun _ _ _ _ _ _ us hl => match us, hl with | [_, _], _ => rfl) (fun vs H Q E h => ?_) (fun cdv A outer s H vs Q E hr h => ?_)
  · obtain ⟨a, t, c, ch, rfl, _⟩ := h
    rfl
  · obtain ⟨a, t, c, ch, rfl, ⟨dx, ha⟩, ht, ok1, ok2, k⟩ := h
    have nd := sc_changed_column.nd
    have lk : (colFs c.name c.top c.dflt c.num).lookup ("changed" : Str) = none := by
      have g1 : (("changed" : Str) == "name") = false := by decide +kernel
      have g2 : (("changed" : Str) == "greatest") = false := by decide +kernel
      have g3 : (("changed" : Str) == "default") = false := by decide +kernel
      have g4 : (("changed" : Str) == "number") = false := by decide +kernel
      unfold colFs
      simp [List.lookup, g1, g2, g3, g4]
    refine ⟨_, pss_cons (ps_set (i := 2) nd rfl (Or.inl rfl) (pe_ix ix_tup (pv 1) pe_int (fun _ _ => rfl)))
      (pss_cons (ps_if (pt_cmpR op_eq (pv 2) pe_str (nomark _)) (pss_one (ps_ret (pe_meth (pv 0) cl (me_Column_changed T) GC hr bC .nil pass0 (pa_cons pe_str (pa_cons (pe_ix ix_tup (pv 1) pe_int (fun _ _ => rfl)) pa_nil))))) pss_nil)
      (pss_cons (ps_if (pt_cmpR op_eq (pv 2) pe_str (nomark _)) (pss_one (ps_ret (pe_meth (pv 0) cl (me_Column_changed T) GC hr bC .nil pass0 (pa_cons pe_str (pa_cons (pe_ix ix_tup (pv 1) pe_int (fun _ _ => rfl)) pa_nil))))) pss_nil)
      (pss_cons (ps_if (pt_cmpR op_eq (pv 2) pe_str (nomark _)) (pss_cons (ps_set (i := 3) nd rfl (Or.inl rfl) (pcall C1 hr (pa_cons (pv 0) (pa_cons (pv 1) (pa_cons (pe_fld (pv 0) rfl) pa_nil)))))
          (pss_one (ps_ret (pe_makeK (mk_Column T) GI (hr.mono (by decide)) (by rfl) (mg_Column T) kb pass0 (pa_cons (pe_fld (pv 0) rfl) (pa_cons (pe_ix ix_tup (pv 1) pe_int (fun _ _ => rfl)) (pa_cons (pv 3) pa_nil))) (pk_cons (pe_fld (pv 0) rfl) pk_nil))))) pss_nil)
      (pss_one (ps_ret (pv 0)))))), ?_⟩
    refine ⟨_, rfl, t, _, 0, _, rfl, rfl, ht, ch.at0, _, rfl, rfl, _, rfl, ?_⟩
    have dv := isIn_ok ok1.df
    cases ch with
    | add n g d =>
      refine iteD (nes (show ("add" : Str) ≠ "rename" by decide +kernel)) ⟨_, rfl, rfl, _, rfl, iteD (nes (show ("add" : Str) ≠ "default" by decide +kernel)) ⟨_, rfl, rfl, _, rfl, iteD (nes (show ("add" : Str) ≠ "greatest" by decide +kernel)) ⟨_, rfl, k a H (Same.refl _) ⟨dx, ha⟩⟩⟩⟩
    | drop n =>
      refine iteD (nes (show ("drop" : Str) ≠ "rename" by decide +kernel)) ⟨_, rfl, rfl, _, rfl, iteD (nes (show ("drop" : Str) ≠ "default" by decide +kernel)) ⟨_, rfl, rfl, _, rfl, iteD (nes (show ("drop" : Str) ≠ "greatest" by decide +kernel)) ⟨_, rfl, k a H (Same.refl _) ⟨dx, ha⟩⟩⟩⟩
    | fill n i =>
      refine iteD (nes (show ("fill" : Str) ≠ "rename" by decide +kernel)) ⟨_, rfl, rfl, _, rfl, iteD (nes (show ("fill" : Str) ≠ "default" by decide +kernel)) ⟨_, rfl, rfl, _, rfl, iteD (nes (show ("fill" : Str) ≠ "greatest" by decide +kernel)) ⟨_, rfl, k a H (Same.refl _) ⟨dx, ha⟩⟩⟩⟩
    | rename n m =>
      have i2 : atI (Ch.rename n m).toV 2 = some (.str m) := rfl
      refine iteDT rfl ⟨_, rfl, a, dx, _, rfl, ha, lk, _, rfl, t, _, 2, _, rfl, rfl, ht, i2, a, "name", c.name, m, c.top, c.num, c.top, c.num, c.dflt, c.dflt, .str m, rfl, ⟨dx, ha⟩, ⟨.inl rfl, by rw [if_pos rfl]⟩, ok2.nm, ok2.gr, ok2.df, ok2.nu, fun a' H' _ s' h' => k a' H' s' h'⟩
    | dflt n v =>
      have i2 : atI (Ch.dflt n v).toV 2 = some v := rfl
      refine iteD (nes (show ("default" : Str) ≠ "rename" by decide +kernel)) ⟨_, rfl, rfl, _, rfl, iteDT rfl ⟨_, rfl, a, dx, _, rfl, ha, lk, _, rfl, t, _, 2, _, rfl, rfl, ht, i2, a, "default", c.name, c.name, c.top, c.num, c.top, c.num, c.dflt, v, v, rfl, ⟨dx, ha⟩,
        ⟨.inr (.inr (.inl rfl)), by rw [if_neg (show ¬ ("default" : Str) = "name" by decide +kernel), if_neg (show ¬ ("default" : Str) = "greatest" by decide +kernel), if_pos rfl]⟩, ok2.nm, ok2.gr, ok2.df, ok2.nu, fun a' H' _ s' h' => k a' H' s' h'⟩⟩
    | great n g way =>
      have i2 : atI (Ch.great n g way).toV 2 = some (.int g) := rfl
      refine iteD (nes (show ("greatest" : Str) ≠ "rename" by decide +kernel)) ⟨_, rfl, rfl, _, rfl, iteD (nes (show ("greatest" : Str) ≠ "default" by decide +kernel)) ⟨_, rfl, rfl, _, rfl, iteDT rfl ?_⟩⟩
      refine ⟨_, rfl, _, rfl, _, rfl, a, _, dx, _, _, rfl, ha, cl, na_Column_default T, colFs_default, a, t, c.name, c.top, c.num, c.dflt, c.dflt, .great n g way, rfl, ⟨dx, ha⟩, ht, dv, ?_⟩
      refine ⟨_, rfl, a, _, dx, _, _, rfl, ha, cl, na_Column_name T, colFs_name, _, rfl, t, _, 2, _, rfl, rfl, ht, i2, _, rfl, _, rfl, a, _, dx, _, _, rfl, ha, cl, na_Column_number T, colFs_number, rfl, rfl, fun x dx2 nx ndx ndc => ?_⟩
      refine ⟨x, dx2, c.name, g, c.num, chgV c.name (.great n g way) c.dflt, rfl, upd_same, ok2.nm, ok2.gr, ok2.df, ok2.nu, fun H4 hc4 k4 => ⟨rfl, ?_⟩⟩
      exact k x H4 (fun b o e => k4 b o (ne_of_none e nx) (by rw [upd_ne (ne_of_none e nx), upd_ne (ne_of_none e ndx)]; exact e)) hc4
/-! values compared -/
theorem val_scal2 {v u : V} (h : isVal v = true) (g : isVal u = true) : scal v u = true := by
  cases v with
  | non => cases u with
    | non => rfl
    | int _ => rfl
    | _ => cases g
  | int _ => cases u with
    | non => rfl
    | int _ => rfl
    | _ => cases g
  | _ => cases h
theorem val_scal {v : V} (h : isVal v = true) : scal v v = true := by
  cases v with
  | non => rfl
  | int _ => rfl
  | _ => cases h
theorem in_val {g : Int} {v : V} (h : isIn g v = true) : isVal v = true := by
  cases v with
  | non => rfl
  | int i =>
    have h : (decide (0 ≤ i) && decide (i ≤ g)) = true := h
    exact (Bool.and_eq_true_iff.mp h).1
  | _ => cases h
theorem in_valOk {g : Int} {v : V} (h : isIn g v = true) : valOk v = true := by
  cases v with
  | non => rfl
  | int _ => rfl
  | _ => cases h

/-! column == column -/
def colEq (c d : Col) : Bool := decide (c.name = d.name) && (decide (c.top = d.top) && (decide (c.dflt = d.dflt) && decide (c.num = d.num)))
theorem colEq_self (c : Col) : colEq c c = true := by
  unfold colEq
  rw [decide_eq_true rfl, decide_eq_true rfl, decide_eq_true rfl, decide_eq_true rfl]
  rfl
def sp_Col_eq (K : PySem.W.Frag) : Sp := fun vs H Q _ => ∃ (a b : Addr) (c d : Col), vs = [.ref a, .ref b] ∧ ColA K H a c ∧ ColA K H b d ∧ isVal c.dflt = true ∧ isVal d.dflt = true ∧ Q (.bl (colEq c d)) H
theorem ok_Col_eq (T : Tx K mg) : ∃ fd, FnOk P w K mg base CX0 1 (He.ma K (He.ga K "Column") "__eq__") fd ["self", "other"] (sp_Col_eq K) ∧ Binds K fd ["self", "other"] [] := by
  have ic := insC_of (ex_Column T) (cl_Column T)
  have cl := cl_Column T
  refine mkMeth (fd_Column___eq__ T) sc_Column___eq__ (fun _ _ _ _ _ _ us hl => match us, hl with | [_, _], _ => rfl) (fun vs H Q E h => ?_) (fun cdv A outer s H vs Q E hr h => ?_)
  · obtain ⟨a, b, c, d, rfl, _⟩ := h
    rfl
  obtain ⟨a, b, c, d, rfl, ⟨dx, h1⟩, ⟨dy, h2⟩, v1, v2, k⟩ := h
  refine ⟨_, pss_one (ps_ret (pe_and (pe_callB (C8.call_isC ic) (by rfl) (fr_isinstance T) (by decide +kernel) (pa_cons (pv 1) (pa_cons (pe_glob (v := .ref (He.ga K "Column")) (by rfl) (mg_Column T) rfl) pa_nil)))
    (pe_and (pe_cmpR op_eq (pe_fld (pv 0) rfl) (pe_fld (pv 1) rfl) (nomark _)) (pe_and (pe_cmpR op_eq (pe_fld (pv 0) rfl) (pe_fld (pv 1) rfl) (nomark _)) (pe_and (pe_cmpR op_eq (pe_fld (pv 0) rfl) (pe_fld (pv 1) rfl) (nomark _)) (pe_one (pe_cmpR op_eq (pe_fld (pv 0) rfl) (pe_fld (pv 1) rfl) (nomark _)))))))), ?_⟩
  have dI : ∀ i j : Int, decide (V.int i = V.int j) = decide (i = j) := fun i j => by
    rw [Bool.eq_iff_iff, decide_eq_true_iff, decide_eq_true_iff]
    exact ⟨V.int.inj, congrArg _⟩
  have dS : ∀ i j : Str, decide (V.str i = V.str j) = decide (i = j) := fun i j => by
    rw [Bool.eq_iff_iff, decide_eq_true_iff, decide_eq_true_iff]
    exact ⟨V.str.inj, congrArg _⟩
  unfold colEq at k
  refine ⟨_, rfl, b, dy, _, rfl, h2, _, rfl, iteT ?_⟩
  refine ⟨_, rfl, a, _, dx, _, _, rfl, h1, cl, na_Column_name T, colFs_name, _, rfl, b, _, dy, _, _, rfl, h2, cl, na_Column_name T, colFs_name, rfl, _, rfl, ?_⟩
  rw [dS]
  cases e1 : decide (c.name = d.name) with
  | false =>
    rw [e1] at k
    exact iteF k
  | true =>
    rw [e1, Bool.true_and] at k
    refine iteT ⟨_, rfl, a, _, dx, _, _, rfl, h1, cl, na_Column_greatest T, colFs_greatest, _, rfl, b, _, dy, _, _, rfl, h2, cl, na_Column_greatest T, colFs_greatest, rfl, _, rfl, ?_⟩
    rw [dI]
    cases e2 : decide (c.top = d.top) with
    | false =>
      rw [e2] at k
      exact iteF k
    | true =>
      rw [e2, Bool.true_and] at k
      refine iteT ⟨_, rfl, a, _, dx, _, _, rfl, h1, cl, na_Column_default T, colFs_default, _, rfl, b, _, dy, _, _, rfl, h2, cl, na_Column_default T, colFs_default, val_scal2 v1 v2, _, rfl, ?_⟩
      cases e3 : decide (c.dflt = d.dflt) with
      | false =>
        rw [e3] at k
        exact iteF k
      | true =>
        rw [e3, Bool.true_and] at k
        refine iteT ⟨_, rfl, a, _, dx, _, _, rfl, h1, cl, na_Column_number T, colFs_number, _, rfl, b, _, dy, _, _, rfl, h2, cl, na_Column_number T, colFs_number, rfl, ?_⟩
        rw [dI]
        exact k
/-! Column.__contains__ -/
def sp_contains (K : PySem.W.Frag) : Sp := fun vs H Q _ => ∃ (c : Addr) (n : Str) (g k : Int) (d x : V) (t : String), vs = [.ref c, x] ∧ ColAt K H c n g d k ∧ TyX K H x (.type t) ∧ Q (.bl (isIn g x)) H
theorem ok_contains (T : Tx K mg) : ∃ fd, FnOk P w K mg base CX0 4 (He.ma K (He.ga K "Column") "__contains__") fd ["self", "x"] (sp_contains K) ∧ Binds K fd ["self", "x"] [] := by
  have C1 := ok_is_within (P := P) (w := w) (base := base) T
  obtain ⟨fd, F⟩ := fd_Column___contains__ T
  refine ⟨fd, F.ok (CX := CX0) sc_Column___contains__ (fun vs H Q E h => ?_) (fun cdv A outer s H vs Q E hr h => ?_), F.bindsN fun _ _ _ _ _ _ us hl => match us, hl with | [_, _], _ => rfl⟩
  · obtain ⟨c, n, g, k, d, x, t, rfl, _⟩ := h
    rfl
  suffices hh : ∃ t, PSs (cxOf CX0 P w K mg base ["self", "x"] "Column.__contains__" (defScope s_Column___contains__) (He.ma K (He.ga K "Column") "__contains__") cdv A outer s H E).nox (defBody s_Column___contains__) t ∧
      t { nx := fun _ H' => Q .non H', rt := Q } (start ["self", "x"] vs) H by
    obtain ⟨t, h1, h2⟩ := hh
    exact ⟨t, h1.nox, h2⟩
  obtain ⟨c, n, g, k, d, x, t, rfl, ⟨dx, hc⟩, ty, kk⟩ := h
  refine ⟨_, pss_one (ps_ret (pcall C1 hr (pa_cons (pv 1) (pa_cons (pe_fld (pv 0) rfl) pa_nil)))), ?_⟩
  exact ⟨_, rfl, _, rfl, c, _, dx, _, _, rfl, hc, cl_Column T, na_Column_greatest T, colFs_greatest, x, g, t, rfl, ty, kk⟩
/-! column_numbered, of an int -/
def isK (n : Int) (c : Col) : Bool := decide (c.num = n)
def Numbered (as : List Addr) (cs : List Col) (n : Int) (v : V) : Prop := (v = .non ∧ cs.find? (isK n) = none) ∨ ∃ (i : Nat) (a : Addr) (c : Col), v = .ref a ∧ as[i]? = some a ∧ cs[i]? = some c ∧ cs.find? (isK n) = some c
def sp_column_numbered (K : PySem.W.Frag) : Sp := fun vs H Q _ => ∃ (l : Addr) (as : List Addr) (cs : List Col) (n : Int), vs = [.ref l, .int n] ∧ SqL K H l (as.map V.ref) ∧ Cols K H as cs ∧ ∀ v, Numbered as cs n v → Q v H
theorem findk_pre {cs : List Col} {i : Nat} {c : Col} {n : Int} (h : cs[i]? = some c) (hp : (cs.take i).find? (isK n) = none) : (cs.take (i + 1)).find? (isK n) = if isK n c = true then some c else none := by
  rw [List.take_add_one, h, List.find?_append, hp]
  show (Option.none).or _ = _
  rw [Option.none_or]
  show (match isK n c with | true => some c | false => none) = _
  cases isK n c <;> rfl
theorem findk_take {cs : List Col} {i : Nat} {c : Col} {n : Int} (h : cs[i]? = some c) (hp : (cs.take i).find? (isK n) = none) (hc : isK n c = true) : cs.find? (isK n) = some c := by
  have e : cs = cs.take (i + 1) ++ cs.drop (i + 1) := (List.take_append_drop _ _).symm
  rw [e, List.find?_append, findk_pre h hp, if_pos hc]
  rfl
theorem ok_column_numbered (T : Tx K mg) : Callee P w K mg base CX0 2 "column_numbered" ["columns", "number"] [] (sp_column_numbered K) := by
  have C1 := ok_is_whole (P := P) (w := w) (base := base) T
  refine mkCallee (fd_column_numbered T) (mg_column_numbered T) sc_column_numbered (fun _ _ _ _ _ _ us hl => match us, hl with | [_, _], _ => rfl) (fun vs H Q E h => ?_) (fun cdv A outer s H vs Q E hr h => ?_)
  · obtain ⟨l, as, cs, n, rfl, _⟩ := h
    rfl
  · obtain ⟨l, as, cs, n, rfl, hl, hc, k⟩ := h
    have nd := sc_column_numbered.nd
    refine ⟨_, pss_cons (ps_if (pt_not (pt_val (pcall C1 hr (pa_cons (pv 1) pa_nil)))) (pss_one (ps_ret pe_non)) pss_nil)
        (pss_cons (ps_for PassesOwn.never rfl (pi_list (pv 0)) (pg_name (i := 2) nd rfl (Or.inl rfl)) (pss_one (ps_if (pt_cmpR op_eq (pe_fld (pv 2) rfl) (pv 1) (nomark _)) (pss_one (ps_ret (pv 2))) pss_nil))) (pss_one (ps_ret pe_non))), ?_⟩
    refine ⟨_, rfl, .int n, _, rfl, .base (.int n), _, rfl, iteF ⟨_, rfl, l, rfl, ⟨_, hl⟩, ?_⟩⟩
    refine for_list (xs := as.map V.ref) (fun i σ H' => H' = H ∧ (cs.take i).find? (isK n) = none ∧ ∃ y, σ = [some (.ref l), some (.int n), y]) ⟨rfl, rfl, _, rfl⟩ (fun i σ H' _ h => by rw [h.1]; exact hl) ?_ ?_
    · rintro i x σ H' hx ⟨rfl, hp, y, rfl⟩
      rw [List.getElem?_map] at hx
      cases ha : as[i]? with
      | none =>
        rw [ha] at hx
        cases hx
      | some a =>
        rw [ha] at hx
        obtain rfl := Option.some.inj hx
        obtain ⟨c, hci, dx, hat⟩ := hc.at_ ha
        refine ⟨_, rfl, a, _, dx, _, _, rfl, hat, cl_Column T, na_Column_number T, colFs_number, _, rfl, rfl, _, rfl, ?_⟩
        by_cases e : c.num = n
        · rw [decide_eq_true (show V.int c.num = V.int n by rw [e])]
          exact iteT ⟨_, rfl, k _ (.inr ⟨i, a, c, rfl, ha, hci, findk_take hci hp (decide_eq_true e)⟩)⟩
        · rw [decide_eq_false (fun z => e (V.int.inj z))]
          exact iteF ⟨rfl, by rw [findk_pre hci hp, if_neg (by rw [show isK n c = false from decide_eq_false e]; decide)], _, rfl⟩
    · rintro σ H' ⟨rfl, hp, y, rfl⟩
      rw [List.length_map, hc.len, List.take_length] at hp
      exact k _ (.inl ⟨rfl, hp⟩)
/-! kind_of -/
def sp_kind_of (K : PySem.W.Frag) : Sp := fun vs H Q _ => ∃ (t : Addr) (c : Ch), vs = [.ref t] ∧ ChAt K H t c ∧ Q (.str c.kind) H
theorem ok_kind_of (T : Tx K mg) : Callee P w K mg base CX0 1 "kind_of" ["change"] [] (sp_kind_of K) := by
  refine mkCallee (fd_kind_of T) (mg_kind_of T) sc_kind_of (fun _ _ _ _ _ _ us hl => match us, hl with | [_], _ => rfl) (fun vs H Q E h => ?_) (fun cdv A outer s H vs Q E hr h => ?_)
  · obtain ⟨t, c, rfl, _⟩ := h
    rfl
  · obtain ⟨t, c, rfl, ht, k⟩ := h
    exact ⟨_, pss_one (ps_ret (pe_ix ix_tup (pv 0) pe_int (fun _ _ => rfl))), _, rfl, t, _, 0, _, rfl, rfl, ht, c.at0, k⟩
/-! add_hindrance -/
def addHind (cs : List Col) (n : Str) (g : Int) (d : V) : V := if (cs.find? (isN n)).isSome = true then .str "alive" else if 6 ≤ cs.length then .str "many" else if isIn g d = true then .non else .str "above"
def sp_add_hindrance (K : PySem.W.Frag) : Sp := fun vs H Q _ => ∃ (l t : Addr) (as : List Addr) (cs : List Col) (x : V) (n : Str) (g : Int) (d : V), vs = [.ref l, x, .ref t] ∧ (SqL K H l (as.map V.ref) ∨ SqT K H l (as.map V.ref)) ∧ Cols K H as cs ∧ Named as cs n x ∧ ChAt K H t (.add n g d) ∧ isVal d = true ∧ Q (addHind cs n g d) H
theorem ok_add_hindrance (T : Tx K mg) : Callee P w K mg base CX0 4 "add_hindrance" ["columns", "namesake", "change"] [] (sp_add_hindrance K) := by
  have C1 := ok_is_within (P := P) (w := w) (base := base) T
  refine mkCallee (fd_add_hindrance T) (mg_add_hindrance T) sc_add_hindrance (fun _ _ _ _ _ _ us hl => match us, hl with | [_, _, _], _ => rfl) (fun vs H Q E h => ?_) (fun cdv A outer s H vs Q E hr h => ?_)
  · obtain ⟨l, t, as, cs, x, n, g, d, rfl, _⟩ := h
    rfl
  · obtain ⟨l, t, as, cs, x, n, g, d, rfl, hl, hc, hx, ht, hd, k⟩ := h
    obtain ⟨tk, gM⟩ := mi_MOST_COLUMNS T
    refine ⟨_, pss_cons (ps_if (pt_cmpR op_notN (pv 1) pe_non (nomark _)) (pss_one (ps_ret pe_str)) pss_nil)
      (pss_cons (ps_if (pt_cmpR op_ge (pe_callB call_len (by rfl) (fr_len T) PySem.boot_len (pa_cons (pv 0) pa_nil)) (pe_glob (v := .int 6) (by rfl) gM ⟨_, rfl⟩) (nomark _)) (pss_one (ps_ret pe_str)) pss_nil)
      (pss_cons (ps_if (pt_not (pt_val (pcall C1 hr (pa_cons (pe_ix ix_tup (pv 2) pe_int (fun _ _ => rfl)) (pa_cons (pe_ix ix_tup (pv 2) pe_int (fun _ _ => rfl)) pa_nil))))) (pss_one (ps_ret pe_str)) pss_nil)
      (pss_one (ps_ret pe_non)))), ?_⟩
    unfold addHind at k
    refine ⟨_, rfl, rfl, _, rfl, ?_⟩
    rcases hx with ⟨rfl, hf⟩ | ⟨i, a, c, rfl, _, _, hf⟩
    · rw [hf] at k
      rw [if_neg (show ¬ (Option.isSome (none : Option Col)) = true by decide)] at k
      refine iteNS rfl ?_
      have hlen : LenV K (.ref l) H cs.length := by
        rcases hl with hl | hl
        · exact .inl ⟨_, hl, by rw [List.length_map]; exact hc.len.symm⟩
        · exact .inr ⟨_, hl, by rw [List.length_map]; exact hc.len.symm⟩
      refine ⟨_, rfl, _, cs.length, rfl, hlen, _, _, rfl, rfl, _, rfl, ?_⟩
      by_cases h6 : 6 ≤ cs.length
      · rw [if_pos h6] at k
        exact iteDT (by omega) k
      · rw [if_neg h6] at k
        have td : ∃ ty, TyX K H d (.type ty) := by
          cases d with
          | non => exact ⟨_, .base .non⟩
          | int i => exact ⟨_, .base (.int i)⟩
          | _ => cases hd
        obtain ⟨ty, td⟩ := td
        refine iteD (by omega) ⟨_, rfl, t, _, 3, _, rfl, rfl, ht, rfl, _, rfl, t, _, 2, _, rfl, rfl, ht, rfl, d, g, ty, rfl, td, _, rfl, ?_⟩
        cases hi : isIn g d with
        | true =>
          rw [hi, if_pos rfl] at k
          exact iteF k
        | false =>
          rw [hi, if_neg (by decide)] at k
          exact iteT k
    · rw [hf] at k
      rw [if_pos (show (Option.isSome (some c)) = true from rfl)] at k
      exact iteNF (by intro z; cases z) k
/-! hindrance -/
/-- the word by which a change cannot be done, or None -/
def hindV (cs : List Col) (c : Ch) : V := match c with
  | .add n g d => addHind cs n g d
  | .drop n => match cs.find? (isN n) with
    | none => .str "unknown"
    | some _ => if cs.length = 1 then .str "only" else .non
  | .rename n m => match cs.find? (isN n) with
    | none => .str "unknown"
    | some _ => if (cs.find? (isN m)).isSome = true then .str "alive" else .non
  | .dflt n v => match cs.find? (isN n) with
    | none => .str "unknown"
    | some e => if isIn e.top v = true then .non else .str "above"
  | .great n g way => match cs.find? (isN n) with
    | none => .str "unknown"
    | some e => if chgV e.name (.great n g way) e.dflt = .str "missing" then .str "default" else .non
  | .fill n i => match cs.find? (isN n) with
    | none => .str "unknown"
    | some e => if isIn e.top (.int i) = true then .non else .str "above"
def sp_hindrance (K : PySem.W.Frag) : Sp := fun vs H Q _ => ∃ (l t : Addr) (as : List Addr) (cs : List Col) (c : Ch), vs = [.ref l, .ref t] ∧ (SqL K H l (as.map V.ref) ∨ SqT K H l (as.map V.ref)) ∧ Cols K H as cs ∧ (∀ e ∈ cs, valOk e.dflt = true) ∧ ChAt K H t c ∧ c.fits = true ∧ ∀ H', Same H H' → Q (hindV cs c) H'
theorem chg_scal {n : Str} {c : Ch} {v : V} (h : valOk v = true) : scal (chgV n c v) (.str "missing") = true := by
  unfold chgV
  split
  · cases c <;> cases v <;> first | cases h | rfl | skip
    all_goals (simp only [abv]; repeat (first | rfl | split))
  · cases v <;> first | rfl | cases h
theorem ok_hindrance (T : Tx K mg) : Callee P w K mg base CX0 5 "hindrance" ["columns", "change"] [] (sp_hindrance K) := by
  have C1 := (ok_column_named (P := P) (w := w) (base := base) T).up (show 1 ≤ 4 by decide)
  have C2 := ok_add_hindrance (P := P) (w := w) (base := base) T
  have C3 := (ok_is_within (P := P) (w := w) (base := base) T).up (show 3 ≤ 4 by decide)
  have C4 := (ok_changed_value (P := P) (w := w) (base := base) T).up (show 2 ≤ 4 by decide)
  refine mkCallee (fd_hindrance T) (mg_hindrance T) sc_hindrance (fun _ _ _ _ _ _ us hl => match us, hl with | [_, _], _ => rfl) (fun vs H Q E h => ?_) (fun cdv A outer s H vs Q E hr h => ?_)
  · obtain ⟨l, t, as, cs, c, rfl, _⟩ := h
    rfl
  · obtain ⟨l, t, as, cs, c, rfl, hl, hc, hd, ht, hf, k⟩ := h
    obtain ⟨tk, gM⟩ := ms_MISSING T
    have nd := sc_hindrance.nd
    refine ⟨_, pss_cons (ps_set (i := 2) nd rfl (Or.inl rfl) (pe_ix ix_tup (pv 1) pe_int (fun _ _ => rfl)))
      (pss_cons (ps_set (i := 3) nd rfl (Or.inl rfl) (pcall C1 hr (pa_cons (pv 0) (pa_cons (pe_ix ix_tup (pv 1) pe_int (fun _ _ => rfl)) pa_nil))))
      (pss_cons (ps_if (pt_cmpR op_eq (pv 2) pe_str (nomark _)) (pss_one (ps_ret (pcall C2 hr (pa_cons (pv 0) (pa_cons (pv 3) (pa_cons (pv 1) pa_nil)))))) pss_nil)
      (pss_cons (ps_if (pt_cmpR op_isN (pv 3) pe_non (nomark _)) (pss_one (ps_ret pe_str)) pss_nil)
      (pss_cons (ps_if (PW.pt (pw_and (pt_cmpR op_eq (pv 2) pe_str (nomark _)) (pw_and1 (pt_cmpR op_notN (pcall C1 hr (pa_cons (pv 0) (pa_cons (pe_ix ix_tup (pv 1) pe_int (fun _ _ => rfl)) pa_nil))) pe_non (nomark _))))) (pss_one (ps_ret pe_str)) pss_nil)
      (pss_cons (ps_if (PW.pt (pw_and (pt_cmpR op_eq (pv 2) pe_str (nomark _)) (pw_and1 (pt_cmpR op_eq (pe_callB call_len (by rfl) (fr_len T) PySem.boot_len (pa_cons (pv 0) pa_nil)) pe_int (nomark _))))) (pss_one (ps_ret pe_str)) pss_nil)
      (pss_cons (ps_if (PW.pt (pw_and (pt_cmpR op_in_seq (pv 2) (pe_tup (pa_cons pe_str (pa_cons pe_str pa_nil))) (by rfl)) (pw_and1 (pt_not (pt_val (pcall C3 hr (pa_cons (pe_ix ix_tup (pv 1) pe_int (fun _ _ => rfl)) (pa_cons (pe_fld (pv 3) rfl) pa_nil))))))))
        (pss_one (ps_ret pe_str)) pss_nil)
      (pss_cons (ps_if (PW.pt (pw_and (pt_cmpR op_eq (pv 2) pe_str (nomark _)) (pw_and1 (pt_cmpR op_eq (pcall C4 hr (pa_cons (pv 3) (pa_cons (pv 1) (pa_cons (pe_fld (pv 3) rfl) pa_nil)))) (pe_glob (v := .str "missing") (by rfl) gM ⟨_, rfl⟩) (nomark _))))) (pss_one (ps_ret pe_str)) pss_nil)
      (pss_one (ps_ret pe_non))))))))), ?_⟩
    have hlen : ∀ H', Same H H' → LenV K (.ref l) H' cs.length := fun H' s' => by
      rcases hl with hl | hl
      · exact .inl ⟨_, s'.seq hl, by rw [List.length_map]; exact hc.len.symm⟩
      · exact .inr ⟨_, same_tup s' hl, by rw [List.length_map]; exact hc.len.symm⟩
    refine ⟨_, rfl, t, _, 0, _, rfl, rfl, ht, c.at0, ?_⟩
    refine ⟨_, rfl, _, rfl, t, _, 1, _, rfl, rfl, ht, c.at1, l, as, cs, c.name, rfl, hl, hc, fun x hx => ?_⟩
    have kn : ∀ v, hindV cs c = v → ∀ H', Same H H' → Q v H' := fun v e H' s' => by
      rw [← e]
      exact k H' s'
    have nn : ∀ a, ¬ V.ref a = V.non := fun a z => by cases z
    cases c with
    | add n g d =>
      have hf' : (isNm (.str n) && (isGr (.int g) && isVal d)) = true := hf
      rw [Bool.and_eq_true, Bool.and_eq_true] at hf'
      exact ⟨_, rfl, rfl, _, rfl, iteDT rfl ⟨_, rfl, _, rfl, _, rfl, l, t, as, cs, x, n, g, d, rfl, hl, hc, hx, ht, hf'.2.2, kn _ rfl H (Same.refl _)⟩⟩
    | drop n =>
      refine ⟨_, rfl, rfl, _, rfl, iteD (nes (show ("drop" : Str) ≠ "add" by decide +kernel)) ⟨_, rfl, rfl, _, rfl, ?_⟩⟩
      rcases hx with ⟨rfl, hx⟩ | ⟨i, a, e, rfl, hia, hie, hx⟩
      · have hx' : cs.find? (isN n) = none := hx
        exact iteDT rfl (kn _ (by simp only [hindV, hx']) H (Same.refl _))
      have hx' : cs.find? (isN n) = some e := hx
      refine iteD (nn a) ⟨_, rfl, rfl, _, rfl, iteD (nes (show ("drop" : Str) ≠ "rename" by decide +kernel)) (iteF ⟨_, rfl, rfl, _, rfl, iteDT rfl ⟨_, rfl, _, cs.length, rfl, hlen _ (Same.refl _), rfl, _, rfl, ?_⟩⟩)⟩
      by_cases h1 : cs.length = 1
      · exact iteDT (by rw [h1]; rfl) (kn _ (by simp only [hindV, hx']; rw [if_pos h1]) H (Same.refl _))
      · refine iteD (nei (by omega)) ?_
        exact ⟨_, rfl, (by show 2 ≤ sizeLine; decide), fun t2 nt2 => ⟨t2, _, rfl, .inr (sqT_of upd_same), rfl, rfl, _, rfl, iteF (iteF ⟨_, rfl, rfl, _, rfl, iteD (nes (show ("drop" : Str) ≠ "greatest" by decide +kernel)) (iteF (kn _ (by simp only [hindV, hx']; rw [if_neg h1]) _ (same_new nt2)))⟩)⟩⟩
    | rename n m =>
      refine ⟨_, rfl, rfl, _, rfl, iteD (nes (show ("rename" : Str) ≠ "add" by decide +kernel)) ⟨_, rfl, rfl, _, rfl, ?_⟩⟩
      rcases hx with ⟨rfl, hx⟩ | ⟨i, a, e, rfl, hia, hie, hx⟩
      · have hx' : cs.find? (isN n) = none := hx
        exact iteDT rfl (kn _ (by simp only [hindV, hx']) H (Same.refl _))
      have hx' : cs.find? (isN n) = some e := hx
      have i2 : atI (Ch.rename n m).toV 2 = some (.str m) := rfl
      refine iteD (nn a) ⟨_, rfl, rfl, _, rfl, iteDT rfl ⟨_, rfl, _, rfl, t, _, 2, _, rfl, rfl, ht, i2, l, as, cs, m, rfl, hl, hc, fun y hy => ⟨rfl, _, rfl, ?_⟩⟩⟩
      rcases hy with ⟨rfl, hy⟩ | ⟨i', a', e', rfl, _, _, hy⟩
      · refine iteNS rfl ⟨_, rfl, rfl, _, rfl, iteD (nes (show ("rename" : Str) ≠ "drop" by decide +kernel)) (iteF ?_)⟩
        exact ⟨_, rfl, (by show 2 ≤ sizeLine; decide), fun t2 nt2 => ⟨t2, _, rfl, .inr (sqT_of upd_same), rfl, rfl, _, rfl, iteF (iteF ⟨_, rfl, rfl, _, rfl, iteD (nes (show ("rename" : Str) ≠ "greatest" by decide +kernel)) (iteF (kn _ (by simp only [hindV, hx', hy]; rfl) _ (same_new nt2)))⟩)⟩⟩
      · exact iteNF (nn _) (kn _ (by simp only [hindV, hx', hy]; rfl) H (Same.refl _))
    | dflt n v =>
      refine ⟨_, rfl, rfl, _, rfl, iteD (nes (show ("default" : Str) ≠ "add" by decide +kernel)) ⟨_, rfl, rfl, _, rfl, ?_⟩⟩
      rcases hx with ⟨rfl, hx⟩ | ⟨i, a, e, rfl, hia, hie, hx⟩
      · have hx' : cs.find? (isN n) = none := hx
        exact iteDT rfl (kn _ (by simp only [hindV, hx']) H (Same.refl _))
      have hx' : cs.find? (isN n) = some e := hx
      obtain ⟨e2, he2, dx, hat⟩ := hc.at_ hia
      obtain rfl : e = e2 := Option.some.inj (hie.symm.trans he2)
      have i2 : atI (Ch.dflt n v).toV 2 = some v := rfl
      refine iteD (nn a) ⟨_, rfl, rfl, _, rfl, iteD (nes (show ("default" : Str) ≠ "rename" by decide +kernel)) (iteF ⟨_, rfl, rfl, _, rfl, iteD (nes (show ("default" : Str) ≠ "drop" by decide +kernel)) (iteF ⟨_, rfl, (by show 2 ≤ sizeLine; decide), fun t2 nt2 => ⟨t2, _, rfl, .inr (sqT_of upd_same), rfl, rfl, _, rfl, iteT ?_⟩⟩)⟩)⟩
      have s2 := same_new (o := .tup [V.str "default", .str "fill"]) nt2
      have tv : ∃ ty, ∀ H : Hp, TyX K H v (.type ty) := by
        have hv : (isNm (.str n) && isVal v) = true := hf
        rw [Bool.and_eq_true] at hv
        cases v with
        | non => exact ⟨_, fun _ => .base .non⟩
        | int i => exact ⟨_, fun _ => .base (.int i)⟩
        | _ => cases hv.2
      obtain ⟨ty, tv⟩ := tv
      refine ⟨_, rfl, t, _, 2, _, rfl, rfl, same_tup s2 ht, i2, _, rfl, a, _, dx, _, _, rfl, s2 _ _ hat, cl_Column T, na_Column_greatest T, colFs_greatest, v, e.top, ty, rfl, tv _, _, rfl, ?_⟩
      cases hi : isIn e.top v with
      | true => exact iteF (nxt ⟨_, rfl, rfl, _, rfl, iteD (nes (show ("default" : Str) ≠ "greatest" by decide +kernel)) (iteF (nxt (kn _ (by simp only [hindV, hx']; rw [if_pos hi]) _ s2)))⟩)
      | false => exact iteT (kn _ (by simp only [hindV, hx']; rw [if_neg (by rw [hi]; decide)]) _ s2)
    | fill n v =>
      refine ⟨_, rfl, rfl, _, rfl, iteD (nes (show ("fill" : Str) ≠ "add" by decide +kernel)) ⟨_, rfl, rfl, _, rfl, ?_⟩⟩
      rcases hx with ⟨rfl, hx⟩ | ⟨i, a, e, rfl, hia, hie, hx⟩
      · have hx' : cs.find? (isN n) = none := hx
        exact iteDT rfl (kn _ (by simp only [hindV, hx']) H (Same.refl _))
      have hx' : cs.find? (isN n) = some e := hx
      obtain ⟨e2, he2, dx, hat⟩ := hc.at_ hia
      obtain rfl : e = e2 := Option.some.inj (hie.symm.trans he2)
      have i2 : atI (Ch.fill n v).toV 2 = some (.int v) := rfl
      refine iteD (nn a) ⟨_, rfl, rfl, _, rfl, iteD (nes (show ("fill" : Str) ≠ "rename" by decide +kernel)) (iteF ⟨_, rfl, rfl, _, rfl, iteD (nes (show ("fill" : Str) ≠ "drop" by decide +kernel)) (iteF ⟨_, rfl, (by show 2 ≤ sizeLine; decide), fun t2 nt2 => ⟨t2, _, rfl, .inr (sqT_of upd_same), rfl, rfl, _, rfl, iteT ?_⟩⟩)⟩)⟩
      have s2 := same_new (o := .tup [V.str "default", .str "fill"]) nt2
      have tv : ∃ ty, ∀ H : Hp, TyX K H (.int v) (.type ty) := ⟨_, fun _ => .base (.int v)⟩
      obtain ⟨ty, tv⟩ := tv
      refine ⟨_, rfl, t, _, 2, _, rfl, rfl, same_tup s2 ht, i2, _, rfl, a, _, dx, _, _, rfl, s2 _ _ hat, cl_Column T, na_Column_greatest T, colFs_greatest, (.int v), e.top, ty, rfl, tv _, _, rfl, ?_⟩
      cases hi : isIn e.top (.int v) with
      | true => exact iteF (nxt ⟨_, rfl, rfl, _, rfl, iteD (nes (show ("fill" : Str) ≠ "greatest" by decide +kernel)) (iteF (nxt (kn _ (by simp only [hindV, hx']; rw [if_pos hi]) _ s2)))⟩)
      | false => exact iteT (kn _ (by simp only [hindV, hx']; rw [if_neg (by rw [hi]; decide)]) _ s2)
    | great n g way =>
      refine ⟨_, rfl, rfl, _, rfl, iteD (nes (show ("greatest" : Str) ≠ "add" by decide +kernel)) ⟨_, rfl, rfl, _, rfl, ?_⟩⟩
      rcases hx with ⟨rfl, hx⟩ | ⟨i, a, e, rfl, hia, hie, hx⟩
      · have hx' : cs.find? (isN n) = none := hx
        exact iteDT rfl (kn _ (by simp only [hindV, hx']) H (Same.refl _))
      have hx' : cs.find? (isN n) = some e := hx
      obtain ⟨e2, he2, dx, hat⟩ := hc.at_ hia
      obtain rfl : e = e2 := Option.some.inj (hie.symm.trans he2)
      have hde := hd e (List.mem_of_getElem? hie)
      refine iteD (nn a) ⟨_, rfl, rfl, _, rfl, iteD (nes (show ("greatest" : Str) ≠ "rename" by decide +kernel)) (iteF ⟨_, rfl, rfl, _, rfl, iteD (nes (show ("greatest" : Str) ≠ "drop" by decide +kernel)) (iteF ⟨_, rfl, (by show 2 ≤ sizeLine; decide), fun t2 nt2 => ⟨t2, _, rfl, .inr (sqT_of upd_same), rfl, rfl, _, rfl, iteF (iteF ?_)⟩⟩)⟩)⟩
      have s2 := same_new (o := .tup [V.str "default", .str "fill"]) nt2
      refine ⟨_, rfl, rfl, _, rfl, iteDT rfl ⟨_, rfl, _, rfl, _, rfl, a, _, dx, _, _, rfl, s2 _ _ hat, cl_Column T, na_Column_default T, colFs_default, a, t, e.name, e.top, e.num, e.dflt, e.dflt, .great n g way, rfl, ⟨dx, s2 _ _ hat⟩, same_tup s2 ht, hde, chg_scal hde, _, rfl, ?_⟩⟩
      by_cases hm : chgV e.name (.great n g way) e.dflt = .str "missing"
      · exact iteDT hm (kn _ (by simp only [hindV, hx']; rw [if_pos hm]) _ s2)
      · exact iteD hm (nxt (kn _ (by simp only [hindV, hx']; rw [if_neg hm]) _ s2))
/-! columns_behind -/
/-- the columns behind a change -/
def behind (cs : List Col) (ch : Ch) (num : Int) : List Col := match ch with
  | .add n g d => cs ++ [⟨n, g, d, num⟩]
  | .drop n => cs.filter fun c => !decide (c.name = n)
  | ch => cs.map fun c => if c.name = ch.name then chgC c ch else c
theorem Cols.all {K : PySem.W.Frag} {H : Hp} : ∀ {as : List Addr} {cs : List Col}, as.length = cs.length → (∀ (i : Nat) (a : Addr) (c : Col), as[i]? = some a → cs[i]? = some c → ColA K H a c) → Cols K H as cs
  | [], [], _, _ => .nil
  | [], _ :: _, h, _ => by cases h
  | _ :: _, [], h, _ => by cases h
  | a :: as, c :: cs, h, f => .cons (f 0 a c rfl rfl) (Cols.all (Nat.succ.inj h) fun i a' c' h1 h2 => f (i + 1) a' c' (by simpa using h1) (by simpa using h2))
theorem Cols.two {K : PySem.W.Frag} {H : Hp} {as : List Addr} {cs : List Col} {i : Nat} {a : Addr} {c : Col} (h : Cols K H as cs) (h1 : as[i]? = some a) (h2 : cs[i]? = some c) : ColA K H a c := by
  obtain ⟨c', e, q⟩ := h.at_ h1
  obtain rfl : c = c' := Option.some.inj (h2.symm.trans e)
  exact q
theorem Cols.app {K : PySem.W.Frag} {H : Hp} : ∀ {as bs : List Addr} {cs ds : List Col}, Cols K H as cs → Cols K H bs ds → Cols K H (as ++ bs) (cs ++ ds)
  | _, _, _, _, .nil, h => h
  | _, _, _, _, .cons h t, q => .cons h (t.app q)
/-- the addresses whose columns pass -/
def keepA (f : Col → Bool) : List Addr → List Col → List Addr
  | a :: as, c :: cs => if f c = true then a :: keepA f as cs else keepA f as cs
  | _, _ => []
theorem Cols.filter {K : PySem.W.Frag} {H : Hp} (f : Col → Bool) : ∀ {as : List Addr} {cs : List Col}, Cols K H as cs → Cols K H (keepA f as cs) (cs.filter f)
  | _, _, .nil => .nil
  | _, _, .cons (c := c) h t => by
    have ih := t.filter f
    unfold keepA
    rw [List.filter_cons]
    split
    · exact .cons h ih
    · exact ih
def sp_columns_behind (K : PySem.W.Frag) : Sp := fun vs H Q _ => ∃ (l t : Addr) (as : List Addr) (cs : List Col) (ch : Ch) (num : Int), vs = [.ref l, .ref t, .int num] ∧ SqL K H l (as.map V.ref) ∧ Cols K H as cs ∧ ChAt K H t ch ∧ as.length ≤ 1000 ∧ 0 ≤ num ∧
  (∀ c ∈ cs, ColOk c) ∧ (∀ c ∈ behind cs ch num, ColOk c) ∧ ∀ (l' : Addr) (as' : List Addr) (H' : Hp), H l' = none → Same H H' → H' l' = some (.lst (as'.map V.ref)) → Cols K H' as' (behind cs ch num) → Q (.ref l') H'
/-- the addresses among what a comprehension over the columns keeps -/
theorem keep_map {K : PySem.W.Frag} {H : Hp} (f : Col → Bool) (g : V → Bool) : ∀ {as : List Addr} {cs : List Col}, Cols K H as cs → (∀ a c, ColA K H a c → a ∈ as → g (.ref a) = f c) → ((as.map V.ref).filter g).map (fun x => x) = (keepA f as cs).map V.ref
  | _, _, .nil, _ => rfl
  | _, _, .cons (a := a) (c := c) h t, q => by
    have ih := keep_map f g t fun a' c' h' hm => q a' c' h' (List.mem_cons_of_mem _ hm)
    have e := q a c h List.mem_cons_self
    rw [List.map_id'] at ih ⊢
    unfold keepA
    rw [List.map_cons, List.filter_cons, e]
    split
    · rw [List.map_cons, ih]
    · exact ih
open Classical in
noncomputable def drF (K : PySem.W.Frag) (H : Hp) (n : Str) (x : V) : Bool := decide (∃ a c, x = .ref a ∧ ColA K H a c ∧ ¬ c.name = n)
theorem ColA.name_ {K : PySem.W.Frag} {H : Hp} {a : Addr} {c c' : Col} (h : ColA K H a c) (h' : ColA K H a c') : c.name = c'.name := by
  obtain ⟨dx, h⟩ := h
  obtain ⟨dx', h'⟩ := h'
  rw [h] at h'
  have e := (HO.ins.inj (Option.some.inj h')).2.2
  unfold colFs at e
  exact V.str.inj (congrArg Prod.snd (List.cons.inj e).1)
open Classical in
theorem drF_eq {K : PySem.W.Frag} {H : Hp} {n : Str} {a : Addr} {c : Col} (h : ColA K H a c) : drF K H n (.ref a) = !decide (c.name = n) := by
  unfold drF
  by_cases e : c.name = n
  · rw [decide_eq_true e, decide_eq_false]
    · rfl
    · rintro ⟨a', c', e', h', ne⟩
      cases e'
      exact ne ((h'.name_ h).trans e)
  · rw [decide_eq_false e, decide_eq_true]
    · rfl
    · exact ⟨a, c, rfl, h, e⟩
theorem Cols.of_vs {K : PySem.W.Frag} {H : Hp} : ∀ {ys : List V} {cs : List Col}, ys.length = cs.length → (∀ (i : Nat) (y : V), ys[i]? = some y → ∃ a c, y = .ref a ∧ cs[i]? = some c ∧ ColA K H a c) → ∃ as, ys = as.map V.ref ∧ Cols K H as cs
  | [], [], _, _ => ⟨[], rfl, .nil⟩
  | [], _ :: _, h, _ => by cases h
  | _ :: _, [], h, _ => by cases h
  | y :: ys, c :: cs, h, f => by
    obtain ⟨a, c', rfl, e, hc⟩ := f 0 y rfl
    obtain rfl : c = c' := Option.some.inj e
    obtain ⟨as, rfl, ht⟩ := Cols.of_vs (ys := ys) (cs := cs) (Nat.succ.inj h) fun i y' h1 => f (i + 1) y' (by simpa using h1)
    exact ⟨a :: as, rfl, .cons hc ht⟩
theorem ok_columns_behind (T : Tx K mg) : Callee P w K mg base CX0 8 "columns_behind" ["columns", "change", "number"] [] (sp_columns_behind K) := by
  have C1 := ok_changed_column (P := P) (w := w) (base := base) T
  obtain ⟨fdI, GI, FI⟩ := ok_Col_init (P := P) (w := w) (base := base) T
  obtain ⟨_, _, kb⟩ := kbinds_Col T FI
  have cl := cl_Column T
  refine mkCallee (fd_columns_behind T) (mg_columns_behind T) sc_columns_behind (fun _ _ _ _ _ _ us hl => match us, hl with | [_, _, _], _ => rfl) (fun vs H Q E h => ?_) (fun cdv A outer s H vs Q E hr h => ?_)
  · obtain ⟨l, t, as, cs, ch, num, rfl, _⟩ := h
    rfl
  · obtain ⟨l, t, as, cs, ch, num, rfl, hl, hc, ht, hlen, hnum, okc, okb, k⟩ := h
    have nd := sc_columns_behind.nd
    refine ⟨_, pss_cons (ps_set (i := 3) nd rfl (Or.inl rfl) (pe_ix ix_tup (pv 1) pe_int (fun _ _ => rfl)))
      (pss_cons (ps_set (i := 4) nd rfl (Or.inr rfl) (pe_ix ix_tup (pv 1) pe_int (fun _ _ => rfl)))
      (pss_cons (ps_if (pt_cmpR op_eq (pv 3) pe_str (nomark _)) (pss_one (ps_ret (pe_op op_cat (pe_callTy call_list_of (by rfl) (fr_list T) (by decide +kernel) (pa_cons (pv 0) pa_nil))
          (pe_lst (pa_cons (pe_makeK (mk_Column T) GI (hr.mono (by decide)) (by rfl) (mg_Column T) kb pass0 (pa_cons (pv 4) (pa_cons (pe_ix ix_tup (pv 1) pe_int (fun _ _ => rfl)) (pa_cons (pe_ix ix_tup (pv 1) pe_int (fun _ _ => rfl)) pa_nil))) (pk_cons (pv 2) pk_nil)) pa_nil))))) pss_nil)
      (pss_cons (ps_if (pt_cmpR op_eq (pv 3) pe_str (nomark _)) (pss_one (ps_ret (pe_lc (own := [("column", 5)]) (g := gName 5) (tt := tTest (tOp rNe (tFld K (tVar 5) "name") (tVar 4))) (te := tVar 5) rfl nd (pi_list (pv 0)) (blkOk_by (N := ["columns", "change", "number", "kind", "name", "column"]) (sc := defScope s_columns_behind) (by decide +kernel))
          (fun _ _ _ _ _ => pg_name (i := 5) nd rfl (Or.inl rfl)) (fun _ _ _ _ _ => pts_one (pt_cmpR op_ne (pe_fld (pv 5) rfl) (pv 4) (nomark _))) (fun _ _ _ _ _ => pv 5)))) pss_nil)
      (pss_one (ps_ret (pe_lc (own := [("column", 5)]) (g := gName 5) (tt := tYes) (te := tIf (tTest (tOp rEq (tFld K (tVar 5) "name") (tVar 4))) (tCall (sp_changed_column K) [] E0 (tCons (tVar 5) (tCons (tVar 1) tNil))) (tVar 5)) rfl nd (pi_list (pv 0)) (blkOk_by (N := ["columns", "change", "number", "kind", "name", "column"]) (sc := defScope s_columns_behind) (by decide +kernel))
          (fun _ _ _ _ _ => pg_name (i := 5) nd rfl (Or.inl rfl)) (fun _ _ _ _ _ => pts_nil) (fun _ _ _ _ _ => pe_ifExp (pt_cmpR op_eq (pe_fld (pv 5) rfl) (pv 4) (nomark _)) (pcall C1 hr (pa_cons (pv 5) (pa_cons (pv 1) pa_nil))) (pv 5)))))))), ?_⟩
    refine ⟨_, rfl, t, _, 0, _, rfl, rfl, ht, ch.at0, ?_⟩
    refine ⟨_, rfl, t, _, 1, _, rfl, rfl, ht, ch.at1, ?_⟩
    refine ⟨_, rfl, rfl, _, rfl, ?_⟩
    have other : ∀ ch' : Ch, ch' = ch → behind cs ch' num = cs.map (fun c => if c.name = ch'.name then chgC c ch' else c) → tRet (tLc (iList K (tVar 0)) (gName 5) tYes (tIf (tTest (tOp rEq (tFld K (tVar 5) "name") (tVar 4))) (tCall (sp_changed_column K) [] E0 (tCons (tVar 5) (tCons (tVar 1) tNil))) (tVar 5)) (List.map (fun x => x.2) [(("column" : Str), 5)]))
        { nx := fun _ H' => Q V.non H', rt := Q } [some (.ref l), some (.ref t), some (.int num), some (.str ch'.kind), some (.str ch'.name), none] H := fun ch' e0 e1 => by
      subst e0
      refine tlc_G (fun i y H' => ∃ a c, y = .ref a ∧ (behind cs ch' num)[i]? = some c ∧ ColA K H' a c) (fun i y H1 H2 s2 ⟨a, c, h1, h2, h3⟩ => ⟨a, c, h1, h2, h3.keepNL s2⟩) (fun R h => ⟨_, rfl, h l H (Same.refl _) hl⟩) (by rw [List.length_map]; omega) (fun _ => rfl) ?_ ?_
      · intro i x hx H1 s1 R hR
        rw [List.getElem?_map] at hx
        cases ha : as[i]? with
        | none =>
          rw [ha] at hx
          cases hx
        | some a =>
          rw [ha] at hx
          obtain rfl := Option.some.inj hx
          obtain ⟨c, hci, dx, hat⟩ := hc.at_ ha
          have hb : (behind cs ch' num)[i]? = some (if c.name = ch'.name then chgC c ch' else c) := by rw [e1, List.getElem?_map, hci]; rfl
          refine ⟨_, rfl, a, _, dx, _, _, rfl, s1 _ _ hat, cl, na_Column_name T, colFs_name, _, rfl, rfl, _, rfl, ?_⟩
          by_cases e : c.name = ch'.name
          · rw [if_pos e] at hb
            rw [decide_eq_true (show V.str c.name = V.str ch'.name by rw [e])]
            exact iteT ⟨_, rfl, _, rfl, a, t, c, ch', rfl, ⟨dx, s1 _ _ hat⟩, ht.keep s1, okc _ (List.mem_of_getElem? hci), okb _ (List.mem_of_getElem? hb), fun a' H2 s2 h2 => hR _ _ s2 ⟨a', _, rfl, hb, h2⟩⟩
          · rw [if_neg e] at hb
            rw [decide_eq_false (fun z => e (V.str.inj z))]
            exact iteF ⟨_, rfl, hR _ _ (Same.refl _) ⟨a, _, rfl, hb, dx, s1 _ _ hat⟩⟩
      · intro D ys H' nD s' hD hlen' hy
        obtain ⟨as', rfl, hcs⟩ := Cols.of_vs (by rw [hlen', List.length_map, hc.len, e1, List.length_map]) hy
        exact k D as' H' nD s' hD hcs
    cases ch with
    | add n g d =>
      have i2 : atI (Ch.add n g d).toV 2 = some (.int g) := rfl
      have i3 : atI (Ch.add n g d).toV 3 = some d := rfl
      have okn : ColOk ⟨n, g, d, num⟩ := okb _ (List.mem_append_right _ (List.mem_singleton.mpr rfl))
      refine iteDT rfl ⟨_, rfl, l, _, rfl, .inl hl, fun p np => ?_⟩
      have s1 : Same H (upd H p (.lst (as.map V.ref))) := same_new np
      have hp : upd H p (.lst (as.map V.ref)) p = some (.lst (as.map V.ref)) := upd_same
      generalize upd H p (.lst (as.map V.ref)) = H1 at s1 hp ⊢
      refine ⟨_, rfl, _, rfl, t, _, 2, _, rfl, rfl, ht.keep s1, i2, _, rfl, t, _, 3, _, rfl, rfl, ht.keep s1, i3, _, rfl, rfl, rfl, fun x dx2 nx ndx ndc => ?_⟩
      refine ⟨x, dx2, n, g, num, d, rfl, upd_same, okn.nm, okn.gr, okn.df, okn.nu, fun H4 hc4 k4 => ⟨rfl, ?_⟩⟩
      have s4 : Same H1 H4 := fun b o e => k4 b o (ne_of_none e nx) (by rw [upd_ne (ne_of_none e nx), upd_ne (ne_of_none e ndx)]; exact e)
      refine ⟨by show 1 ≤ sizeLine; decide, fun q nq => ⟨p, q, as.map V.ref, [.ref x], rfl, rfl, ?_, upd_same, ?_, fun l' nl' => ?_⟩⟩
      · exact same_new nq _ _ (s4 _ _ hp)
      · rw [List.length_map]
        exact Nat.le_trans (Nat.add_le_add_right hlen 1) (by decide)
      · have s5 : Same H (upd (upd H4 q (.lst [.ref x])) l' (.lst (as.map V.ref ++ [.ref x]))) := s1.trans (s4.trans ((same_new nq).trans (same_new nl')))
        refine k l' (as ++ [x]) _ ?_ s5 (by rw [List.map_append]; exact upd_same) ((hc.keep s5).app (.cons (ColAt.keep ((same_new nq).trans (same_new nl')) hc4) .nil))
        cases h0 : H l' with
        | none => rfl
        | some o => exact absurd ((s1.trans (s4.trans (same_new nq))) _ _ h0) (by rw [nl']; intro z; cases z)
    | drop n =>
      refine iteD (nes (show ("drop" : Str) ≠ "add" by decide +kernel)) ⟨_, rfl, rfl, _, rfl, iteDT rfl ?_⟩
      refine tlc_L (drF K H n) (fun x => x) (fun R h => ⟨_, rfl, h l H (Same.refl _) hl⟩) (by rw [List.length_map]; omega) (fun _ => rfl) ?_ (fun x _ _ H1 _ R h => ⟨_, rfl, h H1 (Same.refl _)⟩) ?_
      · intro x hx H1 s1 R hR
        obtain ⟨a, ha, rfl⟩ := List.mem_map.mp hx
        obtain ⟨i, hi⟩ := List.mem_iff_getElem?.mp ha
        obtain ⟨c, hc1, dx, hat⟩ := hc.at_ hi
        rw [drF_eq (c := c) ⟨dx, hat⟩] at hR
        have e : decide (V.str c.name = V.str n) = decide (c.name = n) := by
          by_cases e : c.name = n
          · rw [decide_eq_true e, decide_eq_true (by rw [e])]
          · rw [decide_eq_false e, decide_eq_false (fun z => e (V.str.inj z))]
        rw [← e] at hR
        exact ⟨_, rfl, a, _, dx, _, _, rfl, s1 _ _ hat, cl, na_Column_name T, colFs_name, _, rfl, rfl, _, rfl, hR _ (Same.refl _)⟩
      · intro D H' nD s' hD
        rw [keep_map (fun c => !decide (c.name = n)) (drF K H n) hc fun a c h _ => drF_eq h] at hD
        exact k D _ H' nD s' hD ((hc.keep s').filter _)
    | rename n m =>
      exact iteD (nes (show ("rename" : Str) ≠ "add" by decide +kernel)) ⟨_, rfl, rfl, _, rfl, iteD (nes (show ("rename" : Str) ≠ "drop" by decide +kernel)) (other _ rfl rfl)⟩
    | great n g way =>
      exact iteD (nes (show ("greatest" : Str) ≠ "add" by decide +kernel)) ⟨_, rfl, rfl, _, rfl, iteD (nes (show ("greatest" : Str) ≠ "drop" by decide +kernel)) (other _ rfl rfl)⟩
    | dflt n v =>
      exact iteD (nes (show ("default" : Str) ≠ "add" by decide +kernel)) ⟨_, rfl, rfl, _, rfl, iteD (nes (show ("default" : Str) ≠ "drop" by decide +kernel)) (other _ rfl rfl)⟩
    | fill n v =>
      exact iteD (nes (show ("fill" : Str) ≠ "add" by decide +kernel)) ⟨_, rfl, rfl, _, rfl, iteD (nes (show ("fill" : Str) ≠ "drop" by decide +kernel)) (other _ rfl rfl)⟩
/-! births -/
/-- the lists at the addresses es hold the columns eds -/
inductive Eds (K : PySem.W.Frag) (H : Hp) : List Addr → List (List Col) → Prop
  | nil : Eds K H [] []
  | cons {e : Addr} {es : List Addr} {cs : List Col} {eds : List (List Col)} (as : List Addr) : H e = some (.lst (as.map V.ref)) → Cols K H as cs → Eds K H es eds → Eds K H (e :: es) (cs :: eds)
theorem Eds.keep {K : PySem.W.Frag} {H H' : Hp} (s : Same H H') : ∀ {es : List Addr} {eds : List (List Col)}, Eds K H es eds → Eds K H' es eds
  | _, _, .nil => .nil
  | _, _, .cons as h c t => .cons as (s _ _ h) (c.keep s) (t.keep s)
theorem Eds.len {K : PySem.W.Frag} {H : Hp} : ∀ {es : List Addr} {eds : List (List Col)}, Eds K H es eds → es.length = eds.length
  | _, _, .nil => rfl
  | _, _, .cons _ _ _ t => congrArg Nat.succ t.len
theorem Eds.at_ {K : PySem.W.Frag} {H : Hp} : ∀ {es : List Addr} {eds : List (List Col)} {i : Nat} {e : Addr}, Eds K H es eds → es[i]? = some e → ∃ cs as, eds[i]? = some cs ∧ H e = some (.lst (as.map V.ref)) ∧ Cols K H as cs
  | _, _, _, _, .nil, e => by simp at e
  | _, _, 0, _, .cons as h c t, e => by
    simp at e
    subst e
    exact ⟨_, as, rfl, h, c⟩
  | _, _, i + 1, a, .cons as h c t, e => by
    obtain ⟨cs, as', h1, h2⟩ := Eds.at_ (i := i) (e := a) t (by simpa using e)
    exact ⟨cs, as', by simpa using h1, h2⟩
theorem Eds.snoc {K : PySem.W.Frag} {H : Hp} {e : Addr} {as : List Addr} {cs : List Col} (h : H e = some (.lst (as.map V.ref))) (c : Cols K H as cs) : ∀ {es : List Addr} {eds : List (List Col)}, Eds K H es eds → Eds K H (es ++ [e]) (eds ++ [cs])
  | _, _, .nil => .cons as h c .nil
  | _, _, .cons as' h' c' t => .cons as' h' c' (t.snoc h c)
/-- one column more: its edition is told where its number is the next one -/
def bornStep (i : Nat) (b : List Int) (c : Col) : List Int := if c.num = b.length then b ++ [(i : Int)] else b
theorem bornStep_pos {i : Nat} {b : List Int} {c : Col} (h : c.num = b.length) : bornStep i b c = b ++ [(i : Int)] := if_pos h
theorem bornStep_neg {i : Nat} {b : List Int} {c : Col} (h : ¬ c.num = b.length) : bornStep i b c = b := if_neg h
def bornTo (eds : List (List Col)) : Nat → List Int
  | 0 => []
  | i + 1 => (eds.getD i []).foldl (bornStep i) (bornTo eds i)
def bornOf (eds : List (List Col)) : List Int := bornTo eds eds.length
theorem bornStep_len (i : Nat) : ∀ (cs : List Col) (b : List Int), (cs.foldl (bornStep i) b).length ≤ b.length + cs.length
  | [], b => Nat.le_refl _
  | c :: cs, b => by
    refine Nat.le_trans (bornStep_len i cs _) ?_
    have : (bornStep i b c).length ≤ b.length + 1 := by
      unfold bornStep
      split
      · rw [List.length_append]; exact Nat.le_refl _
      · exact Nat.le_succ _
    rw [List.length_cons]
    omega
theorem bornTo_len {eds : List (List Col)} (h : ∀ cs ∈ eds, cs.length ≤ 1000) : ∀ i, (bornTo eds i).length ≤ 1000 * i
  | 0 => Nat.le_refl _
  | i + 1 => by
    have h1 := bornTo_len h i
    have h2 := bornStep_len i (eds.getD i []) (bornTo eds i)
    have h3 : (eds.getD i []).length ≤ 1000 := by
      rw [List.getD_eq_getElem?_getD]
      cases e : eds[i]? with
      | none => exact Nat.zero_le _
      | some cs => exact h cs (List.mem_of_getElem? e)
    show ((eds.getD i []).foldl (bornStep i) (bornTo eds i)).length ≤ _
    omega
def sp_births (K : PySem.W.Frag) : Sp := fun vs H Q _ => ∃ (l : Addr) (es : List Addr) (eds : List (List Col)), vs = [.ref l] ∧ H l = some (.lst (es.map V.ref)) ∧ Eds K H es eds ∧ eds.length ≤ 50 ∧ (∀ cs ∈ eds, cs.length ≤ 1000) ∧
  ∀ (p : Addr) (H' : Hp), H p = none → Same H H' → H' p = some (.lst ((bornOf eds).map V.int)) → Q (.ref p) H'
theorem ok_births (T : Tx K mg) : Callee P w K mg base CX0 1 "births" ["editions"] [] (sp_births K) := by
  refine mkCallee (fd_births T) (mg_births T) sc_births (fun _ _ _ _ _ _ us hl => match us, hl with | [_], _ => rfl) (fun vs H Q E h => ?_) (fun cdv A outer s H vs Q E hr h => ?_)
  · obtain ⟨l, es, eds, rfl, _⟩ := h
    rfl
  · obtain ⟨l, es, eds, rfl, hl, he, h50, hw, k⟩ := h
    have nd := sc_births.nd
    refine ⟨_, pss_cons (ps_set (i := 1) nd rfl (Or.inl rfl) (pe_lst pa_nil))
      (pss_cons (ps_for PassesOwn.never rfl (pi_enum (by rfl) (fr_enumerate T) (pa_cons (pv 0) pa_nil)) (pg_tup rfl (pgs_cons (pg_name (i := 2) nd rfl (Or.inl rfl)) (pgs_cons (pg_name (i := 3) nd rfl (Or.inl rfl)) pgs_nil)))
        (pss_one (ps_for PassesOwn.never rfl (pi_list (pv 3)) (pg_name (i := 4) nd rfl (Or.inl rfl)) (pss_one (ps_if (pt_cmpR op_eq (pe_fld (pv 4) rfl) (pe_callB call_len_seq (by rfl) (fr_len T) PySem.boot_len (pa_cons (pv 1) pa_nil)) (nomark _))
          (pss_one (ps_expr (pe_bm PySem.F.plainAttrs_list PySem.F.slot_list_append PySem.F.type_list_append mt_append (pv 1) (pa_cons (pv 2) pa_nil)))) pss_nil))))) (pss_one (ps_ret (pv 1)))), ?_⟩
    refine ⟨Nat.zero_le _, fun b nb => ⟨_, rfl, l, es.map V.ref, rfl, sqL_of (same_new nb _ _ hl), ?_⟩⟩
    have s0 : Same H (upd H b (.lst [])) := same_new nb
    refine for_it walk_enum (fun i σ H' => Same H H' ∧ H' b = some (.lst ((bornTo eds i).map V.int)) ∧ ∃ x y z, σ = [some (.ref l), some (.ref b), x, y, z]) ⟨s0, upd_same, _, _, _, rfl⟩ (fun i σ H' _ h => sqL_of (h.1 _ _ hl)) ?_ ?_
    · rintro i v σ H1 H2 hi ⟨s1, hb, x, y, z, rfl⟩ ⟨T1, x', y', rfl, nT, rfl, ex, ey⟩
      obtain rfl := Option.some.inj ex
      have ey : (es.map V.ref)[i]? = some y' := ey
      rw [List.getElem?_map] at ey
      cases hes : es[i]? with
      | none =>
        rw [hes] at ey
        cases ey
      | some e =>
        rw [hes] at ey
        obtain rfl := Option.some.inj ey
        obtain ⟨cs, as, hcs, hea, hc⟩ := he.at_ hes
        have hi50 : i < eds.length := (List.getElem?_eq_some_iff.mp hcs).1
        have hgd : eds.getD i [] = cs := by rw [List.getD_eq_getElem?_getD, hcs]; rfl
        have s2 : Same H (upd H1 T1 (.tup [.int (i : Nat), .ref e])) := s1.trans (same_new nT)
        have hb2 : upd H1 T1 (.tup [.int (i : Nat), .ref e]) b = some (.lst ((bornTo eds i).map V.int)) := same_new nT _ _ hb
        refine ⟨T1, _, rfl, sqT_of upd_same, rfl, _, _, rfl, _, _, rfl, rfl, ?_⟩
        generalize upd H1 T1 (.tup [.int (i : Nat), .ref e]) = H2 at s2 hb2 ⊢
        refine ⟨_, rfl, e, rfl, ⟨_, sqL_of (s2 _ _ hea)⟩, ?_⟩
        refine for_list (xs := as.map V.ref) (fun j σ H' => Same H H' ∧ H' b = some (.lst (((cs.take j).foldl (bornStep i) (bornTo eds i)).map V.int)) ∧ ∃ z, σ = [some (.ref l), some (.ref b), some (.int (i : Nat)), some (.ref e), z]) ⟨s2, hb2, _, rfl⟩ (fun j σ H' _ h => sqL_of (h.1 _ _ hea)) ?_ ?_
        · rintro j x σ H3 hx ⟨s3, hb3, z, rfl⟩
          rw [List.getElem?_map] at hx
          cases ha : as[j]? with
          | none =>
            rw [ha] at hx
            cases hx
          | some a =>
            rw [ha] at hx
            obtain rfl := Option.some.inj hx
            obtain ⟨c, hci, dx, hat⟩ := hc.at_ ha
            have et : cs.take (j + 1) = cs.take j ++ [c] := by rw [List.take_add_one, hci]; rfl
            have bl : ((cs.take j).foldl (bornStep i) (bornTo eds i)).length ≤ 100000 := by
              have h1 := bornTo_len hw i
              have h2 := bornStep_len i (cs.take j) (bornTo eds i)
              have h3 : (cs.take j).length ≤ 1000 := Nat.le_trans (List.length_take_le' _ _) (hw cs (List.mem_of_getElem? hcs))
              omega
            refine ⟨_, rfl, a, _, dx, _, _, rfl, s3 _ _ hat, cl_Column T, na_Column_number T, colFs_number, _, rfl, b, _, rfl, .inl (sqL_of hb3), rfl, _, rfl, ?_⟩
            rw [List.length_map]
            by_cases e2 : c.num = (((cs.take j).foldl (bornStep i) (bornTo eds i)).length : Int)
            · rw [decide_eq_true (show V.int c.num = V.int _ by rw [e2])]
              refine iteT ⟨_, rfl, .inl ⟨rfl, _, sqL_of hb3⟩, _, rfl, b, _, _, rfl, rfl, hb3, ?_, same_mut s3 nb, ?_, _, rfl⟩
              · rw [List.length_map]
                exact Nat.lt_of_le_of_lt bl (by decide)
              · rw [upd_same, et, List.foldl_append, List.foldl_cons, List.foldl_nil]
                rw [bornStep_pos e2, List.map_append]
                rfl
            · rw [decide_eq_false (fun z => e2 (V.int.inj z))]
              refine iteF ⟨s3, ?_, _, rfl⟩
              rw [hb3, et, List.foldl_append, List.foldl_cons, List.foldl_nil]
              rw [bornStep_neg e2]
        · rintro σ H3 ⟨s3, hb3, z, rfl⟩
          refine ⟨s3, ?_, _, _, _, rfl⟩
          rw [List.length_map, hc.len, List.take_length] at hb3
          rw [hb3]
          show _ = some (HO.lst (((eds.getD i []).foldl (bornStep i) (bornTo eds i)).map V.int))
          rw [hgd]
    · rintro σ H1 ⟨s1, hb, x, y, z, rfl⟩
      rw [List.length_map, he.len] at hb
      exact ⟨_, rfl, k b H1 nb s1 hb⟩
theorem inV_new {ns : List Str} {n : Str} (h : n ∉ ns) : inV (.str n) (ns.map V.str) = false := by
  unfold inV
  rw [List.any_eq_false]
  intro y hy
  obtain ⟨m, hm, rfl⟩ := List.mem_map.mp hy
  intro e
  exact h ((of_decide_eq_true (show decide (m = n) = true from e)) ▸ hm)

-- needs: Column.__init__
/-! a column's fields hold no method's name -/
theorem colFs_changed {n : Str} {g : Int} {d : V} {k : Int} : (colFs n g d k).lookup ("changed" : Str) = none := by
  have g1 : (("changed" : Str) == "name") = false := by decide +kernel
  have g2 : (("changed" : Str) == "greatest") = false := by decide +kernel
  have g3 : (("changed" : Str) == "default") = false := by decide +kernel
  have g4 : (("changed" : Str) == "number") = false := by decide +kernel
  unfold colFs
  simp [List.lookup, g1, g2, g3, g4]

/-! numbered_columns, where all is well -/
def numb (cs : List Col) : List Col := cs.mapIdx fun i c => { c with num := (i : Nat) }
theorem flat_strs (ns : List Str) : (ns.map V.str).all flatV = true := by
  rw [List.all_eq_true]
  intro y hy
  obtain ⟨m, _, rfl⟩ := List.mem_map.mp hy
  rfl
def sp_numbered (K : PySem.W.Frag) : Sp := fun vs H Q _ => ∃ (l : Addr) (as : List Addr) (cs : List Col), vs = [.ref l] ∧ H l = some (.lst (as.map V.ref)) ∧ Cols K H as cs ∧ 1 ≤ cs.length ∧ cs.length ≤ 6 ∧ (cs.map (·.name)).Nodup ∧ (∀ c ∈ cs, ColOk c) ∧
  ∀ (l' : Addr) (as' : List Addr) (H' : Hp), H l' = none → Same H H' → H' l' = some (.lst (as'.map V.ref)) → Cols K H' as' (numb cs) → Q (.ref l') H'
theorem ok_numbered_columns (T : Tx K mg) : Callee P w K mg base CX0 7 "numbered_columns" ["columns"] [] (sp_numbered K) := by
  have C1 := (ok_is_list (P := P) (w := w) (base := base) T).up (show 1 ≤ 6 by decide)
  obtain ⟨fdC, GC, bC⟩ := ok_changed (P := P) (w := w) (base := base) T
  have cl := cl_Column T
  obtain ⟨tM, eM⟩ := mi_MOST_COLUMNS T
  refine mkCallee (fd_numbered_columns T) (mg_numbered_columns T) sc_numbered_columns (fun _ _ _ _ _ _ us hl => match us, hl with | [_], _ => rfl) (fun vs H Q E h => ?_) (fun cdv A outer s H vs Q E hr h => ?_)
  · obtain ⟨l, as, cs, rfl, _⟩ := h
    rfl
  · obtain ⟨l, as, cs, rfl, hl, hc, h1, h6, hnd, hok, k⟩ := h
    have nd := sc_numbered_columns.nd
    refine ⟨_, pss_cons (ps_if (PW.pt (pw_or (pt_not (pt_val (pcall C1 hr (pa_cons (pv 0) pa_nil)))) (pw_or1 (pt_cmpR op_eq (pe_callB call_len_seq (by rfl) (fr_len T) PySem.boot_len (pa_cons (pv 0) pa_nil)) pe_int (nomark _))))) (pss_one ps_never) pss_nil)
      (pss_cons (ps_set (i := 1) nd rfl (Or.inl rfl) (pe_lst pa_nil))
      (pss_cons (ps_for PassesOwn.never rfl (pi_enum (by rfl) (fr_enumerate T) (pa_cons (pv 0) pa_nil)) (pg_tup rfl (pgs_cons (pg_name (i := 2) nd rfl (Or.inl rfl)) (pgs_cons (pg_name (i := 3) nd rfl (Or.inl rfl)) pgs_nil)))
        (pss_cons (ps_if (PW.pt (pw_or (pt_not (pt_val (pe_callB (C8.call_isC (insC_of (ex_Column T) cl)) (by rfl) (fr_isinstance T) (by decide +kernel) (pa_cons (pv 3) (pa_cons (pe_glob (v := .ref (He.ga K "Column")) (by rfl) (mg_Column T) rfl) pa_nil))))) (pw_or1 (pt_cmpR op_in_seq (pe_fld (pv 3) rfl) (pv 1) (by rfl))))) (pss_one ps_never) pss_nil)
        (pss_one (ps_expr (pe_bm PySem.F.plainAttrs_list PySem.F.slot_list_append PySem.F.type_list_append mt_append (pv 1) (pa_cons (pe_fld (pv 3) rfl) pa_nil))))))
      (pss_cons (ps_if (pt_cmpR op_gt (pe_callB call_len_seq (by rfl) (fr_len T) PySem.boot_len (pa_cons (pv 0) pa_nil)) (pe_glob (v := .int 6) (by rfl) eM ⟨_, rfl⟩) (nomark _)) (pss_one ps_never) pss_nil)
      (pss_one (ps_ret (pe_lc (own := [("index", 2), ("column", 3)]) (g := gTup K 2 (gCons (gName 2) (gCons (gName 3) gNil))) (tt := tYes) (te := tMeth (He.ga K "Column") "changed" (sp_changed K) [] E0 (tVar 3) (tCons (tC (.str "number")) (tCons (tVar 2) tNil))) rfl nd (pi_enum (by rfl) (fr_enumerate T) (pa_cons (pv 0) pa_nil)) (blkOk_by (N := ["columns", "names", "index", "column"]) (sc := defScope s_numbered_columns) (by decide +kernel))
          (fun _ _ _ _ _ => pg_tup rfl (pgs_cons (pg_name (i := 2) nd rfl (Or.inl rfl)) (pgs_cons (pg_name (i := 3) nd rfl (Or.inl rfl)) pgs_nil))) (fun _ _ _ _ _ => pts_nil) (fun _ _ _ _ _ => pe_meth (pv 3) cl (me_Column_changed T) GC hr bC .nil pass0 (pa_cons pe_str (pa_cons (pv 2) pa_nil))))))))), ?_⟩
    refine ⟨_, rfl, l, _, rfl, sqL_of hl, fun H1 s1 => ⟨_, rfl, iteF ⟨_, rfl, l, _, rfl, .inl (sqL_of (s1 _ _ hl)), rfl, _, rfl, ?_⟩⟩⟩
    rw [List.length_map, hc.len, decide_eq_false (fun z => by have := V.int.inj z; omega)]
    refine iteF ⟨Nat.zero_le _, fun p np => ?_⟩
    have hp0 : H p = none := s1.free np
    have s2 : Same H (upd H1 p (.lst [])) := s1.trans (same_new np)
    have hp2 : upd H1 p (.lst []) p = some (.lst (((cs.map (·.name)).take 0).map V.str)) := upd_same
    generalize upd H1 p (.lst []) = H2 at s2 hp2 ⊢
    refine ⟨_, rfl, l, as.map V.ref, rfl, sqL_of (s2 _ _ hl), ?_⟩
    refine for_it walk_enum (fun i σ H' => Same H H' ∧ H' p = some (.lst (((cs.map (·.name)).take i).map V.str)) ∧ ∃ x y, σ = [some (.ref l), some (.ref p), x, y]) ⟨s2, hp2, _, _, rfl⟩ (fun i σ H' _ h => sqL_of (h.1 _ _ hl)) ?_ ?_
    · rintro i v σ H3 H4 hi ⟨s3, hp3, x, y, rfl⟩ ⟨T1, x', y', rfl, nT, rfl, ex, ey⟩
      obtain rfl := Option.some.inj ex
      have ey : (as.map V.ref)[i]? = some y' := ey
      rw [List.getElem?_map] at ey
      cases ha : as[i]? with
      | none =>
        rw [ha] at ey
        cases ey
      | some a =>
        rw [ha] at ey
        obtain rfl := Option.some.inj ey
        obtain ⟨c, hci, dx, hat⟩ := hc.at_ ha
        have s4 : Same H (upd H3 T1 (.tup [.int (i : Nat), .ref a])) := s3.trans (same_new nT)
        have hp4 : upd H3 T1 (.tup [.int (i : Nat), .ref a]) p = some (.lst (((cs.map (·.name)).take i).map V.str)) := same_new nT _ _ hp3
        refine ⟨T1, _, rfl, sqT_of upd_same, rfl, _, _, rfl, _, _, rfl, rfl, ?_⟩
        generalize upd H3 T1 (.tup [.int (i : Nat), .ref a]) = H4 at s4 hp4 ⊢
        have hni : (cs.map (·.name))[i]? = some c.name := by rw [List.getElem?_map, hci]; rfl
        have et : (cs.map (·.name)).take (i + 1) = (cs.map (·.name)).take i ++ [c.name] := by rw [List.take_add_one, hni]; rfl
        have hfresh : c.name ∉ (cs.map (·.name)).take i := fun hm => by
          have hnd2 : ((cs.map (·.name)).take (i + 1)).Nodup := hnd.sublist (List.take_sublist _ _)
          rw [et, List.nodup_append] at hnd2
          exact hnd2.2.2 _ hm _ (List.mem_singleton.mpr rfl) rfl
        refine ⟨_, rfl, a, dx, _, rfl, s4 _ _ hat, _, rfl, iteF ⟨_, rfl, a, _, dx, _, _, rfl, s4 _ _ hat, cl, na_Column_name T, colFs_name, _, rfl, p, _, rfl, .inl (sqL_of hp4), rfl, flat_strs _, _, rfl, ?_⟩⟩
        rw [show (if false = true then !inV (V.str c.name) (((cs.map (·.name)).take i).map V.str) else inV (V.str c.name) (((cs.map (·.name)).take i).map V.str)) = false from inV_new hfresh]
        refine iteF ⟨_, rfl, .inl ⟨rfl, _, sqL_of hp4⟩, _, rfl, a, _, dx, _, _, rfl, s4 _ _ hat, cl, na_Column_name T, colFs_name, p, _, _, rfl, rfl, hp4, ?_, same_mut s4 hp0, ?_, _, _, rfl⟩
        · rw [List.length_map]
          refine Nat.lt_of_le_of_lt (List.length_take_le' _ _) ?_
          rw [List.length_map]
          exact Nat.lt_of_le_of_lt h6 (by decide)
        · rw [upd_same, et, List.map_append]
          rfl
    · rintro σ H3 ⟨s3, hp3, x, y, rfl⟩
      refine ⟨_, rfl, l, _, rfl, .inl (sqL_of (s3 _ _ hl)), _, _, rfl, rfl, _, rfl, ?_⟩
      rw [List.length_map, hc.len, decide_eq_false (by omega)]
      refine iteF ?_
      show tLc (iEnum K (tCons (tVar 0) tNil)) (gTup K 2 (gCons (gName 2) (gCons (gName 3) gNil))) tYes (tMeth (He.ga K "Column") "changed" (sp_changed K) [] E0 (tVar 3) (tCons (tC (.str "number")) (tCons (tVar 2) tNil))) [2, 3] [some (.ref l), some (.ref p), x, y] H3 Q
      refine tlc_GE (K := K) (xs := as.map V.ref) (j1 := 2) (j2 := 3) (vs := [2, 3]) (Q := Q) (H := H3) (fun i y H' => ∃ a c, y = .ref a ∧ (numb cs)[i]? = some c ∧ ColA K H' a c) (fun i y H1 H2 s2 ⟨a, c, h1, h2, h3⟩ => ⟨a, c, h1, h2, h3.keepNL s2⟩) (fun R h => ⟨_, rfl, h l H3 (Same.refl _) (sqL_of (s3 _ _ hl))⟩) (by rw [List.length_map, hc.len]; omega) (fun _ _ => rfl) ?_ ?_
      · intro i x hx H4 s4 R hR
        rw [List.getElem?_map] at hx
        cases ha : as[i]? with
        | none =>
          rw [ha] at hx
          cases hx
        | some a =>
          rw [ha] at hx
          obtain rfl := Option.some.inj hx
          obtain ⟨c, hci, dx, hat⟩ := hc.at_ ha
          have ha4 := s4 _ _ (s3 _ _ hat)
          have ok := hok c (List.mem_of_getElem? hci)
          have hb : (numb cs)[i]? = some { c with num := (i : Nat) } := by
            unfold numb
            rw [List.getElem?_mapIdx, hci]
            rfl
          refine ⟨_, rfl, a, dx, _, rfl, ha4, colFs_changed, _, rfl, a, "number", c.name, c.name, c.top, c.num, c.top, (i : Nat), c.dflt, c.dflt, .int (i : Nat), rfl, ⟨dx, ha4⟩, ⟨.inr (.inr (.inr rfl)), ?_⟩, ok.nm, ok.gr, ok.df, by omega, fun a' H' _ s' h' => hR _ _ s' ⟨a', _, rfl, hb, h'⟩⟩
          rw [if_neg (show ¬ ("number" : Str) = "name" by decide +kernel), if_neg (show ¬ ("number" : Str) = "greatest" by decide +kernel), if_neg (show ¬ ("number" : Str) = "default" by decide +kernel)]
      · intro D ys H' nD s' hD hlen' hy
        obtain ⟨as', rfl, hcs⟩ := Cols.of_vs (by rw [hlen', List.length_map, hc.len]; unfold numb; rw [List.length_mapIdx]) hy
        exact k D as' H' (s3.free nD) (s3.trans s') hD hcs
-- needs: is_list
/-! enumerate(xs), xs a list or a tuple -/
def SqB (K : PySem.W.Frag) (b : Bool) (H : Hp) (a : Addr) (xs : List V) : Prop := match b with
  | false => SqL K H a xs
  | true => SqT K H a xs
theorem SqB.or {K : PySem.W.Frag} {b : Bool} {H : Hp} {a : Addr} {xs : List V} (h : SqB K b H a xs) : SqL K H a xs ∨ SqT K H a xs := by
  cases b with
  | false => exact .inl h
  | true => exact .inr h
theorem SqB.keep {K : PySem.W.Frag} {b : Bool} {H H' : Hp} {a : Addr} {xs : List V} (s : Same H H') (h : SqB K b H a xs) : SqB K b H' a xs := by
  cases b with
  | false => exact s.seq h
  | true => exact same_tup s h
/-- it stays while an instance is filled -/
theorem SqB.up {K : PySem.W.Frag} {b : Bool} {H H' : Hp} {p C dx a : Addr} {fs : List (Str × V)} {xs : List V} (u : ∀ b o, b ≠ p → H b = some o → H' b = some o) (hp : H p = some (.ins C dx fs)) (h : SqB K b H a xs) : SqB K b H' a xs := by
  cases b with
  | false =>
    rcases h with (h | ⟨o, h⟩) | h
    · exact .inl (.inl (u _ _ (fun z => by rw [z, hp] at h; cases h) h))
    · exact .inl (.inr ⟨o, u _ _ (fun z => by rw [z, hp] at h; cases h) h⟩)
    · exact .inr h
  | true =>
    rcases h with (h | ⟨o, h⟩) | h
    · exact .inl (.inl (u _ _ (fun z => by rw [z, hp] at h; cases h) h))
    · exact .inl (.inr ⟨o, u _ _ (fun z => by rw [z, hp] at h; cases h) h⟩)
    · exact .inr h
theorem emptyTupB_ok {K : PySem.W.Frag} {a : Addr} (h : emptyTupB K a = true) (H : Hp) : SqT K H a [] := by
  unfold emptyTupB at h
  cases q : K.lookup a with
  | none =>
    rw [q] at h
    cases h
  | some o =>
    obtain ⟨oc, od, dt, osl⟩ := o
    rw [q] at h
    cases oc with
    | type c =>
      cases dt with
      | seq its n =>
        have h : (decide (c = "tuple") && decide (its.size = 0)) = true := h
        obtain ⟨h1, h2⟩ := Bool.and_eq_true_iff.mp h
        have h1 : c = "tuple" := of_decide_eq_true h1
        have h2 : its.size = 0 := of_decide_eq_true h2
        subst h1
        have e : its = #[] := Array.eq_empty_of_size_eq_zero h2
        subst e
        exact .inr ⟨_, #[], n, q, rfl, rfl, Nat.zero_le _, .nil⟩
      | _ => cases h
    | _ => cases h
def Iteb (K : PySem.W.Frag) (b : Bool) (a : Addr) : It :=
  ⟨fun i H => ∃ (xs : List V) (x : V), SqB K b H a xs ∧ xs[i]? = some x, fun i H v H' => ∃ T x, v = .ref T ∧ H T = none ∧ H' = upd H T (.tup [.int (i : Nat), x]) ∧ ∀ xs, SqB K b H a xs → xs[i]? = some x, fun i H => ∃ xs : List V, SqB K b H a xs ∧ xs.length = i⟩
theorem turn_enumT {P : Program} {w : World} {K : PySem.W.Frag} {elts : List Expr} {kk : Nat} {tpos : Pos} (a e it : Addr) :
    Turn P w K (.Tuple elts kk tpos) (Iteb K true a) [e, it] e (fun i h => (∃ old, IsEnum h e it ((i : Nat) : Int) old) ∧ h.IsTupleIter it a i ∧ e ≠ it) where
  mem := by simp
  obj := fun i h st b hb => by
    obtain ⟨⟨old, he⟩, ⟨o, ho, hc, hd⟩, _⟩ := st
    have e' : b = e ∨ b = it := by simpa using hb
    rcases e' with z | z
    · rw [z]; exact ⟨_, he, fun v q => nomatch q⟩
    · rw [z]; exact ⟨o, ho, fun v q => by rw [hd] at q; cases q⟩
  keep := fun i h h' st kp => let ⟨⟨old, he⟩, hi, hne⟩ := st; ⟨⟨old, kp e (by simp) _ he⟩, hi.at fun o q => kp it (by simp) o q, hne⟩
  item := by
    intro X hP hw hK hc i pins s σ H E I hf st hg
    subst hP hw hK
    obtain ⟨⟨old, he⟩, hit, hne⟩ := st
    obtain ⟨xs, x, hq, hx⟩ := hg
    have hq : SqT X.K H a xs := hq
    obtain ⟨its, rv, p, hz⟩ := I.tuple hq
    have hTup : s.heap.IsTuple a its.toArray := p
    obtain ⟨u, hu, ru⟩ := rv.get hx
    have hel : e < s.heap.objs.size := Heap.lt_size he
    have hil : it < s.heap.objs.size := by obtain ⟨_, q, _⟩ := hit; exact Heap.lt_size q
    have apart : ∀ b o, s.heap.get? b = some o → (∀ q : Value, o.cls = q → q ≠ .type "tuple") → b ≠ a := fun b o h1 h2 z => by
      obtain ⟨o1, q1, q2, _⟩ := hTup
      rw [← z, h1] at q1
      exact h2 _ rfl (by rw [Option.some.inj q1]; exact q2)
    have hea : e ≠ a := apart e _ he fun q e1 e2 => by rw [← e1] at e2; exact absurd (Value.type.inj e2) (by decide)
    have hai : it ≠ a := by
      obtain ⟨o, q1, q2, q3⟩ := hit
      exact apart it o q1 fun q e1 e2 => by rw [← e1, q2] at e2; exact absurd (Value.type.inj e2) (by decide)
    have hsz : i < its.toArray.size := (Array.getElem?_eq_some_iff.mp (show its.toArray[i]? = some u by simpa using hu)).1
    refine wpAny_pyNext_enum_itemC (c := (i : Nat)) (Draws.tuple (A := X.A.in1) (I.ok.hd hc) it a hai.symm its.toArray) he ⟨hit, hTup⟩ hsz hne (by simp [hne, hea]) fun x' h' tk hx' ho ⟨hit', _⟩ hT hsz hk => ?_
    obtain rfl : u = x' := Option.some.inj ((show its.toArray[i]? = some u by simpa using hu).symm.trans hx')
    refine ⟨_, rfl, wpAny_letOwnedTupleGo_enum (s := { s with heap := h', toks := tk + 1 }) ho fun h'' he' sb => ?_⟩
    have hT2 : h''.get? s.heap.objs.size = some { cls := .type "tuple", data := .seq #[.int ((i : Nat)) tk, u] } := (sb.2 _ (Nat.ne_of_gt hel)).trans hT
    have new : ObjOk X.prog X.w (upd H s.heap.objs.size (.tup [.int ((i : Nat)), x])) h'' s.heap.objs.size (.tup [.int ((i : Nat)), x]) :=
      ⟨by show 2 ≤ sizeLine; decide, [.int ((i : Nat)) tk, u], .cons ⟨_, rfl⟩ (.cons ru .nil), ⟨_, hT2, rfl, _, rfl⟩⟩
    have I1 : Inv X pins σ (upd H s.heap.objs.size (.tup [.int ((i : Nat)), x])) { s with heap := h'', toks := tk + 1 } :=
      I.turnedNew (ch := [e, it]) (fun b ob hb q => (sb.2 b (fun z => hb (by simp [z]))).trans (hk b ob (fun z => hb (by simp [z])) (fun z => hb (by simp [z])) q)) hf (Nat.le_refl _) new
    refine ⟨.ref s.heap.objs.size, _, I1, rfl, ⟨_, x, rfl, I.hok.fresh (Nat.le_refl _), rfl, fun ys hy => by rw [I.tuple_inj (show SqT X.K H a ys from hy) hq]; exact hx⟩, ⟨⟨u, ?_⟩, hit'.at fun o q => (sb.2 it (Ne.symm hne)).trans q, hne⟩, fun b hb => ?_⟩
    · have e1 : ((i + 1 : Nat) : Int) = (i : Int) + 1 := by omega
      rw [e1]; exact he'
    · have hb' : b < s.heap.objs.size := by
        have e' : b = e ∨ b = it := by simpa using hb
        rcases e' with z | z
        · rw [z]; exact hel
        · rw [z]; exact hil
      rw [upd_ne (Nat.ne_of_lt hb')]
      exact (hf b hb).1
  done := by
    intro X hP hw hK hc i pins s σ H E I hf st hg
    subst hP hw hK
    obtain ⟨⟨old, he⟩, hit, hne⟩ := st
    obtain ⟨xs, hq, hx⟩ := hg
    have hq : SqT X.K H a xs := hq
    obtain ⟨its, rv, p, hz⟩ := I.tuple hq
    have hTup : s.heap.IsTuple a its.toArray := p
    obtain ⟨f0, f1, f2, f3, f4, f5⟩ := hf it (by simp)
    have hl := rv.length
    have hai : it ≠ a := by
      obtain ⟨o, q1, q2, q3⟩ := hit
      obtain ⟨o1, r1, r2, _⟩ := hTup
      intro z
      rw [z, r1] at q1
      rw [← Option.some.inj q1, r2] at q2
      exact absurd (Value.type.inj q2) (by decide)
    have hn : its.toArray.size = i := by simp; omega
    exact wpAny_pyNext_enum_endD (Draws.tuple (A := X.A.in1) (I.ok.hd hc) it a hai.symm its.toArray) he ⟨by rw [hn]; exact hit, hTup⟩ fun h' eb => ⟨rfl, I.turned (t' := s.toks) (fun b o hb q => eb b o hb q) f0 f1 f3 f4 f5⟩
  self := fun A i s Q E st h => let ⟨⟨_, he⟩, _⟩ := st; wpAny_pyIter_enum he h
theorem turn_enumF {P : Program} {w : World} {K : PySem.W.Frag} {elts : List Expr} {kk : Nat} {tpos : Pos} (a e it : Addr) :
    Turn P w K (.Tuple elts kk tpos) (Iteb K false a) [e, it] e (fun i h => (∃ old, IsEnum h e it ((i : Nat) : Int) old) ∧ h.IsListIter it a i ∧ e ≠ it) :=
  have t := turn_enum (P := P) (w := w) (K := K) (elts := elts) (kk := kk) (tpos := tpos) a e it
  { mem := t.mem, obj := t.obj, keep := t.keep, item := t.item, self := t.self, done := fun X hP hw hK hc i pins s σ H E I hf st hg => t.done X hP hw hK hc i pins s σ H E I hf st (by
      obtain ⟨xs, h1, h2⟩ := hg
      exact ⟨xs, h1, Nat.le_of_eq h2⟩) }
theorem meets_enumerate_new1 {v : Value} {o : Obj} {H : Heap → Prop} (B : Begins v o H) :
    Meets (Builtin.«enumerate.__new__» ⟨[.type "enumerate", v], []⟩) (fun _ R s => H s.heap ∧
      R (.ok (.ret (.ref (s.heap.push o).objs.size))) { s with heap := (s.heap.push o).push { cls := .type "enumerate", data := .fields #[.none, .bool false, .ref s.heap.objs.size, rawInt 0, .none, .none] } }) :=
  .of_wp fun prog w A R s h => by
    obtain ⟨hp, g, d, tk, os⟩ := s; obtain ⟨h1, h⟩ := h
    have hsub := sub_enumerate
    have q1 : ∀ {A' : Around} {E : Value → Shared → Prop} {Q : Value → Shared → Prop}, Q (.ref hp.objs.size) ⟨hp.push o, g, d, tk, os⟩ → wpAny (model prog w) A' (pyIter v) Q E ⟨hp, g, d, tk, os⟩ :=
      fun q => B.iter prog w _ _ ⟨hp, g, d, tk, os⟩ _ h1 q
    wp_walk using q1
    refine wpAny_stack_any fun st => wpAny_pure ?_
    split
    · rename_i c _ _ _ _ _
      cases (c == Value.type "enumerate")
      · wp_walk using q1
        exact ⟨_, rfl, h⟩
      · wp_walk using q1
        exact ⟨_, rfl, h⟩
    · wp_walk using q1
      exact ⟨_, rfl, h⟩
theorem enum_begins1 {prog : Program} {w : World} {A : Around} {E : Value → Shared → Prop} {s : Shared} {v : Value} {o : Obj} {H : Heap → Prop} {Q : Value → Shared → Prop} (B : Begins v o H) (h1 : H s.heap)
    (h : ∀ h', IsEnum h' (s.heap.objs.size + 1) s.heap.objs.size 0 .none → h'.get? s.heap.objs.size = some o → h'.objs.size = s.heap.objs.size + 2 →
      (∀ b o, s.heap.get? b = some o → h'.get? b = some o) → Q (.ref (s.heap.objs.size + 1)) { s with heap := h' }) :
    wpAny (model prog w) A (call (.type "enumerate") [v]) Q E s := by
  refine callType_new F.called_enumerate (by decide) (F.typeCall_enumerate_1 _) (F.newCall_enumerate_1 _) (fun obj => F.args_object_init_2 obj _) F.entry_enumerate_new
    (meets_enumerate_new1 B) ⟨h1, ?_⟩
  have hz : (s.heap.push o).objs.size = s.heap.objs.size + 1 := Heap.size_push ..
  show _ ∧ _
  rw [hz]
  have he : IsEnum ((s.heap.push o).push { cls := .type "enumerate", data := .fields #[.none, .bool false, .ref s.heap.objs.size, rawInt 0, .none, .none] }) (s.heap.objs.size + 1) s.heap.objs.size 0 .none := by
    have := Heap.get?_push_size (s.heap.push o) (o := { cls := .type "enumerate", data := .fields #[.none, .bool false, .ref s.heap.objs.size, rawInt 0, .none, .none] }) rfl
    rw [hz] at this; exact this
  refine ⟨⟨_, he, rfl⟩, h _ he (Heap.get?_push_of_some _ (Heap.get?_push_size _ B.free)) (by rw [Heap.size_push, hz]) fun b o x => Heap.get?_push_of_some _ (Heap.get?_push_of_some _ x)⟩
def iEnumB (K : PySem.W.Frag) (ta : TA) : TI := fun σ H R => ta σ H fun vs H1 => ∃ a xs b, vs = [.ref a] ∧ SqB K b H1 a xs ∧ R (Iteb K b a) H1
theorem pi_enumB {X : Cx} {e : Expr} {ta : TA} {p pos tpos : Pos} {elts : List Expr} {kk : Nat} (hg : Gl X "enumerate") (hm : X.mg "enumerate" = none) (ha : PA X [e] ta) (hs : starEach [e] X.env = [(false, eval e X.env)] := by rfl) :
    PI X (.Tuple elts kk tpos) (.Call (.Name "enumerate" p) [e] [] pos) (iEnumB X.K ta) := by
  refine ⟨fun pins s σ H R I h => ?_⟩
  refine Call_ (ld_blt I hg hm boot_enumerate (PyProof.Rows.callWith_type1 (thn (ha.run pos pins s σ H _ I h) fun us s1 ⟨vs, H1, I1, r1, q1⟩ => ?_) hs rfl))
  obtain ⟨a, xs, b, ex, hq, q⟩ := q1
  subst ex
  cases r1 with
  | cons r rr =>
    cases rr
    cases r
    have fpo : ∀ b : Addr, b ∈ [s1.heap.objs.size + 1, s1.heap.objs.size] → s1.heap.objs.size ≤ b := fun b hb => by
      have e' : b = s1.heap.objs.size + 1 ∨ b = s1.heap.objs.size := by simpa using hb
      rcases e' with z | z
      · rw [z]; exact Nat.le_add_right _ _
      · rw [z]; exact Nat.le_refl _
    cases b with
    | false =>
      have hq : SqL X.K H1 a xs := hq
      obtain ⟨its, rv, p', hz⟩ := I1.list hq
      refine call_enumerate_list p'.isList fun h' he hit hsz hk => wpAny_pyIter_enum he ?_
      have I2 : Inv X pins σ H1 { s1 with heap := h' } := I1.kept (t' := s1.toks) hk
      exact ⟨s1.heap.objs.size + 1, [s1.heap.objs.size + 1, s1.heap.objs.size], _, _, H1, rfl, I2, turn_enumF a (s1.heap.objs.size + 1) s1.heap.objs.size, ⟨⟨.none, he⟩, hit, Nat.succ_ne_self _⟩, fun b hb => I1.fpOk (fpo b hb) (I1.hok.fresh (fpo b hb)), q⟩
    | true =>
      have hq : SqT X.K H1 a xs := hq
      obtain ⟨its, rv, p', hz⟩ := I1.tuple hq
      refine enum_begins1 (begins_tuple a its.toArray) p' fun h' he hit hsz hk => wpAny_pyIter_enum he ?_
      have I2 : Inv X pins σ H1 { s1 with heap := h' } := I1.kept (t' := s1.toks) hk
      exact ⟨s1.heap.objs.size + 1, [s1.heap.objs.size + 1, s1.heap.objs.size], _, _, H1, rfl, I2, turn_enumT a (s1.heap.objs.size + 1) s1.heap.objs.size, ⟨⟨.none, he⟩, ⟨_, hit, rfl, rfl⟩, Nat.succ_ne_self _⟩, fun b hb => I1.fpOk (fpo b hb) (I1.hok.fresh (fpo b hb)), q⟩
theorem walk_enumB {K : PySem.W.Frag} {b : Bool} {a : Addr} {xs : List V} : Walk (Iteb K b a) xs.length (fun H => SqB K b H a xs) (YPair (fun i => some (.int (i : Nat))) (fun i => xs[i]?)) := by
  refine ⟨fun i _ hi q => ⟨xs, xs[i], q, by simp [hi]⟩, fun _ q => ⟨xs, q, rfl⟩, fun i H v H' _ q y => ?_⟩
  obtain ⟨T, x, h1, h2, h3, h4⟩ := y
  exact ⟨T, .int (i : Nat), x, h1, h2, h3, rfl, h4 xs q⟩

-- needs: is_list is_change
/-! is_list, of a list or a tuple -/
def sp_is_listG (K : PySem.W.Frag) : Sp := fun vs H Q _ => ∃ (a : Addr) (xs : List V), vs = [.ref a] ∧ (SqL K H a xs ∨ SqT K H a xs) ∧ ∀ H', Same H H' → Q (.bl true) H'
theorem ok_is_listG (T : Tx K mg) : Callee P w K mg base CX0 1 "is_list" ["value"] [] (sp_is_listG K) := by
  refine mkCallee (fd_is_list T) (mg_is_list T) sc_is_list (fun _ _ _ _ _ _ us hl => match us, hl with | [_], _ => rfl) (fun vs H Q E h => ?_) (fun cdv A outer s H vs Q E hr h => ?_)
  · obtain ⟨a, xs, rfl, _⟩ := h
    rfl
  · obtain ⟨a, xs, rfl, hx, k⟩ := h
    refine ⟨_, pss_one (ps_ret (pe_callB call_isiT (by rfl) (fr_isinstance T) (by decide +kernel) (pa_cons (pv 0) (pa_cons (pe_tup (pa_cons (pe_bltn (v := .ty "list") (by rfl) (fr_list T) (by decide +kernel) rfl) (pa_cons (pe_bltn (v := .ty "tuple") (by rfl) (fr_tuple T) (by decide +kernel) rfl) pa_nil))) pa_nil)))), ?_⟩
    refine ⟨_, rfl, (by show 2 ≤ sizeLine; decide), fun t nt => ?_⟩
    have s := same_new (o := .tup [.ty "list", .ty "tuple"]) nt
    rcases hx with hx | hx
    · exact ⟨.ref a, t, _, _, _, true, rfl, upd_same, .cons (.ty "list") (.cons (.ty "tuple") .nil), sqL_ty (s.seq hx), kitAny_cons (b := true) (kit_ty (by decide +kernel)) (fun z => by cases z) (fun _ => rfl), k _ s⟩
    · exact ⟨.ref a, t, _, _, _, true, rfl, upd_same, .cons (.ty "list") (.cons (.ty "tuple") .nil), sqT_tup (same_tup s hx), kitAny_cons (b := false) (kit_ty (by decide +kernel)) (fun _ => kitAny_cons (b := true) (kit_ty (by decide +kernel)) (fun z => by cases z) (fun _ => rfl)) (fun z => by cases z), k _ s⟩

/-! columns of an edition; what stays right behind a change -/
structure Good (cs : List Col) (n : Int) : Prop where
  ok : ∀ c ∈ cs, ColOk c ∧ c.num < n
  one : 1 ≤ cs.length
  six : cs.length ≤ 6
  names : (cs.map (·.name)).Nodup
  nn : 0 ≤ n
def numThen (ch : Ch) (n : Int) : Int := match ch with
  | .add _ _ _ => n + 1
  | _ => n
theorem kind_add {ch : Ch} {n : Int} (h : ch.kind = "add") : numThen ch n = n + 1 := by
  cases ch with
  | add _ _ _ => rfl
  | drop _ => exact absurd (show ("drop" : Str) = "add" from h) (by decide +kernel)
  | rename _ _ => exact absurd (show ("rename" : Str) = "add" from h) (by decide +kernel)
  | dflt _ _ => exact absurd (show ("default" : Str) = "add" from h) (by decide +kernel)
  | great _ _ _ => exact absurd (show ("greatest" : Str) = "add" from h) (by decide +kernel)
  | fill _ _ => exact absurd (show ("fill" : Str) = "add" from h) (by decide +kernel)
theorem kind_noadd {ch : Ch} {n : Int} (h : ¬ ch.kind = "add") : numThen ch n = n := by
  cases ch with
  | add _ _ _ => exact absurd rfl h
  | _ => rfl
theorem find_uniq {n : Str} : ∀ {cs : List Col} {c : Col}, (cs.map (·.name)).Nodup → c ∈ cs → c.name = n → cs.find? (isN n) = some c
  | [], _, _, h, _ => by cases h
  | e :: cs, c, nd, h, hn => by
    rw [List.map_cons, List.nodup_cons] at nd
    rw [List.find?_cons]
    rcases List.mem_cons.mp h with rfl | h
    · rw [show isN n c = true from decide_eq_true hn]
    · have ne : ¬ e.name = n := fun z => nd.1 (List.mem_map.mpr ⟨c, h, hn.trans z.symm⟩)
      rw [show isN n e = false from decide_eq_false ne]
      exact find_uniq nd.2 h hn
theorem find_no {n : Str} {cs : List Col} (h : cs.find? (isN n) = none) : n ∉ cs.map (·.name) := fun hm => by
  obtain ⟨c, hc, e⟩ := List.mem_map.mp hm
  exact List.find?_eq_none.mp h c hc (decide_eq_true e)
theorem filter_same {n : Str} {cs : List Col} (h : n ∉ cs.map (·.name)) : cs.filter (fun c => !decide (c.name = n)) = cs := by
  rw [List.filter_eq_self]
  intro c hc
  rw [decide_eq_false (fun z => h (List.mem_map.mpr ⟨c, hc, z⟩))]
  rfl
theorem drop_len {n : Str} : ∀ {cs : List Col}, (cs.map (·.name)).Nodup → cs.length ≤ (cs.filter (fun c => !decide (c.name = n))).length + 1
  | [], _ => Nat.zero_le _
  | e :: cs, nd => by
    rw [List.map_cons, List.nodup_cons] at nd
    rw [List.filter_cons]
    by_cases h : e.name = n
    · rw [if_neg (by rw [decide_eq_true h]; decide), filter_same (by rw [← h]; exact nd.1)]
      exact Nat.le_refl _
    · rw [if_pos (by rw [decide_eq_false h]; rfl), List.length_cons, List.length_cons]
      have := drop_len (n := n) nd.2
      omega
theorem names_map {cs : List Col} {f : Col → Col} (nd : (cs.map (·.name)).Nodup) (h : ∀ a ∈ cs, ∀ b ∈ cs, ¬ a.name = b.name → ¬ (f a).name = (f b).name) : ((cs.map f).map (·.name)).Nodup := by
  rw [List.map_map]
  unfold List.Nodup at *
  rw [List.pairwise_map] at *
  exact nd.imp_of_mem fun ha hb e => h _ ha _ hb e
theorem names_same {cs : List Col} {f : Col → Col} (nd : (cs.map (·.name)).Nodup) (h : ∀ a ∈ cs, (f a).name = a.name) : ((cs.map f).map (·.name)).Nodup := names_map nd fun a ha b hb e => by rw [h a ha, h b hb]; exact e
theorem chgV_in {c : Col} {n : Str} {g : Int} {way : Str} (hn : c.name = n) (hg : isGr (.int g) = true) (hd : isIn c.top c.dflt = true) (h : ¬ chgV c.name (.great n g way) c.dflt = .str "missing") : isIn g (chgV c.name (.great n g way) c.dflt) = true := by
  have h1 : 1 ≤ g := by
    have := Bool.and_eq_true_iff.mp hg
    exact of_decide_eq_true this.1
  have hi : ∀ j : Int, 0 ≤ j → j ≤ g → isIn g (.int j) = true := fun j a b => by
    show (decide (0 ≤ j) && decide (j ≤ g)) = true
    rw [decide_eq_true a, decide_eq_true b]
    rfl
  unfold chgV at h ⊢
  rw [if_pos (show (Ch.great n g way).name = c.name from hn.symm)] at h ⊢
  cases e : c.dflt with
  | non => rfl
  | int j =>
    rw [e] at h hd
    have h0 : 0 ≤ j := of_decide_eq_true (Bool.and_eq_true_iff.mp hd).1
    show isIn g (if g < j then abv g way else .int j) = true
    have h : ¬ (if g < j then abv g way else .int j) = V.str "missing" := h
    by_cases q : g < j
    · rw [if_pos q] at h ⊢
      unfold abv at h ⊢
      split
      · exact hi g (by omega) (Int.le_refl g)
      · rename_i q1
        rw [if_neg q1] at h
        split
        · rfl
        · rename_i q2
          rw [if_neg q2] at h
          exact absurd rfl h
    · rw [if_neg q]
      exact hi j h0 (by omega)
  | _ => rw [e] at hd; cases hd
theorem Good.map {cs : List Col} {n : Int} (g : Good cs n) {f : Col → Col} (h1 : ∀ c ∈ cs, ColOk (f c) ∧ (f c).num = c.num) (h2 : ∀ a ∈ cs, ∀ b ∈ cs, ¬ a.name = b.name → ¬ (f a).name = (f b).name) : Good (cs.map f) n where
  ok := fun c hc => by
    obtain ⟨e, he, rfl⟩ := List.mem_map.mp hc
    exact ⟨(h1 e he).1, by rw [(h1 e he).2]; exact (g.ok e he).2⟩
  one := by rw [List.length_map]; exact g.one
  six := by rw [List.length_map]; exact g.six
  names := names_map g.names h2
  nn := g.nn
theorem Good.step {cs : List Col} {n : Int} {ch : Ch} (g : Good cs n) (f : ch.fits = true) (h : hindV cs ch = .non) : Good (behind cs ch n) (numThen ch n) := by
  cases ch with
  | add nm gr d =>
    have h : addHind cs nm gr d = .non := h
    unfold addHind at h
    have f : (isNm (.str nm) && (isGr (.int gr) && isVal d)) = true := f
    rw [Bool.and_eq_true, Bool.and_eq_true] at f
    split at h
    · cases h
    rename_i h1
    split at h
    · cases h
    rename_i h2
    split at h
    · rename_i h3
      have hno : nm ∉ cs.map (·.name) := find_no (Option.not_isSome_iff_eq_none.mp h1)
      refine ⟨fun c hc => ?_, ?_, ?_, ?_, by have := g.nn; show 0 ≤ n + 1; omega⟩
      · rcases List.mem_append.mp hc with hc | hc
        · exact ⟨(g.ok c hc).1, by have := (g.ok c hc).2; show c.num < n + 1; omega⟩
        · cases List.mem_singleton.mp hc
          exact ⟨⟨f.1, f.2.1, h3, g.nn⟩, by show n < n + 1; omega⟩
      · rw [show behind cs (.add nm gr d) n = cs ++ [⟨nm, gr, d, n⟩] from rfl, List.length_append]
        exact Nat.le_add_left _ _
      · rw [show behind cs (.add nm gr d) n = cs ++ [⟨nm, gr, d, n⟩] from rfl, List.length_append]
        show cs.length + 1 ≤ 6
        omega
      · rw [show behind cs (.add nm gr d) n = cs ++ [⟨nm, gr, d, n⟩] from rfl, List.map_append, List.nodup_append]
        refine ⟨g.names, by simp, fun a ha b hb => ?_⟩
        cases List.mem_singleton.mp hb
        intro z
        have z : a = nm := z
        exact hno (by rw [← z]; exact ha)
    · cases h
  | drop nm =>
    have h : (match cs.find? (isN nm) with
      | none => V.str "unknown"
      | some _ => if cs.length = 1 then .str "only" else .non) = .non := h
    have h1 : ¬ cs.length = 1 := fun z => by
      split at h
      · cases h
      · rw [if_pos z] at h
        cases h
    refine ⟨fun c hc => g.ok c (List.mem_filter.mp hc).1, ?_, ?_, ?_, g.nn⟩
    · have := drop_len (n := nm) g.names
      have := g.one
      show 1 ≤ (cs.filter fun c => !decide (c.name = nm)).length
      omega
    · exact Nat.le_trans (List.length_filter_le _ _) g.six
    · exact g.names.sublist (List.filter_sublist.map _)
  | rename nm m =>
    have h : (match cs.find? (isN nm) with
      | none => V.str "unknown"
      | some _ => if (cs.find? (isN m)).isSome = true then .str "alive" else .non) = .non := h
    have f : (isNm (.str nm) && isNm (.str m)) = true := f
    rw [Bool.and_eq_true] at f
    have hno : m ∉ cs.map (·.name) := by
      refine find_no (Option.not_isSome_iff_eq_none.mp fun z => ?_)
      split at h
      · cases h
      · rw [if_pos z] at h
        cases h
    refine g.map (fun c hc => ?_) fun a ha b hb e => ?_
    · by_cases q : c.name = nm
      · rw [if_pos (show c.name = (Ch.rename nm m).name from q)]
        exact ⟨⟨f.2, (g.ok c hc).1.gr, (g.ok c hc).1.df, (g.ok c hc).1.nu⟩, rfl⟩
      · rw [if_neg (show ¬ c.name = (Ch.rename nm m).name from q)]
        exact ⟨(g.ok c hc).1, rfl⟩
    · have ia : ¬ a.name = m := fun z => hno (List.mem_map.mpr ⟨a, ha, z⟩)
      have ib : ¬ b.name = m := fun z => hno (List.mem_map.mpr ⟨b, hb, z⟩)
      show ¬ (if a.name = nm then { a with name := m } else a : Col).name = (if b.name = nm then { b with name := m } else b : Col).name
      by_cases qa : a.name = nm
      · rw [if_pos qa]
        by_cases qb : b.name = nm
        · exact absurd (qa.trans qb.symm) e
        · rw [if_neg qb]
          exact fun z => ib z.symm
      · rw [if_neg qa]
        by_cases qb : b.name = nm
        · rw [if_pos qb]
          exact ia
        · rw [if_neg qb]
          exact e
  | dflt nm v =>
    have h : (match cs.find? (isN nm) with
      | none => V.str "unknown"
      | some e => if isIn e.top v = true then .non else .str "above") = .non := h
    refine g.map (fun c hc => ?_) fun a ha b hb e => ?_
    · by_cases q : c.name = nm
      · rw [if_pos (show c.name = (Ch.dflt nm v).name from q)]
        rw [find_uniq g.names hc q] at h
        refine ⟨⟨(g.ok c hc).1.nm, (g.ok c hc).1.gr, ?_, (g.ok c hc).1.nu⟩, rfl⟩
        have h : (if isIn c.top v = true then V.non else .str "above") = .non := h
        split at h
        · assumption
        · cases h
      · rw [if_neg (show ¬ c.name = (Ch.dflt nm v).name from q)]
        exact ⟨(g.ok c hc).1, rfl⟩
    · show ¬ (if a.name = nm then { a with dflt := v } else a : Col).name = (if b.name = nm then { b with dflt := v } else b : Col).name
      have q : ∀ c : Col, (if c.name = nm then { c with dflt := v } else c : Col).name = c.name := fun c => by split <;> rfl
      rw [q, q]
      exact e
  | great nm gr way =>
    have h : (match cs.find? (isN nm) with
      | none => V.str "unknown"
      | some e => if chgV e.name (.great nm gr way) e.dflt = V.str "missing" then .str "default" else .non) = .non := h
    have f : (isNm (.str nm) && (isGr (.int gr) && isWy way)) = true := f
    rw [Bool.and_eq_true, Bool.and_eq_true] at f
    refine g.map (fun c hc => ?_) fun a ha b hb e => ?_
    · by_cases q : c.name = nm
      · rw [if_pos (show c.name = (Ch.great nm gr way).name from q)]
        rw [find_uniq g.names hc q] at h
        have h : (if chgV c.name (.great nm gr way) c.dflt = V.str "missing" then V.str "default" else .non) = .non := h
        refine ⟨⟨(g.ok c hc).1.nm, f.2.1, chgV_in q f.2.1 (g.ok c hc).1.df fun z => ?_, (g.ok c hc).1.nu⟩, rfl⟩
        rw [if_pos (show chgV c.name (.great nm gr way) c.dflt = V.str "missing" from z)] at h
        cases h
      · rw [if_neg (show ¬ c.name = (Ch.great nm gr way).name from q)]
        exact ⟨(g.ok c hc).1, rfl⟩
    · show ¬ (if a.name = nm then { a with top := gr, dflt := chgV a.name (.great nm gr way) a.dflt } else a : Col).name = (if b.name = nm then { b with top := gr, dflt := chgV b.name (.great nm gr way) b.dflt } else b : Col).name
      have q : ∀ c : Col, (if c.name = nm then { c with top := gr, dflt := chgV c.name (.great nm gr way) c.dflt } else c : Col).name = c.name := fun c => by split <;> rfl
      rw [q, q]
      exact e
  | fill nm i =>
    have q : ∀ c : Col, (if c.name = (Ch.fill nm i).name then chgC c (.fill nm i) else c : Col) = c := fun c => by split <;> rfl
    refine g.map (fun c hc => ?_) fun a ha b hb e => ?_
    · rw [q]
      exact ⟨(g.ok c hc).1, rfl⟩
    · rw [q, q]
      exact e

/-! columns_of_editions, where all is well; what stays right from change to change -/
/-- columns and the next number, behind changes -/
def stepC (p : List Col × Int) (ch : Ch) : List Col × Int := (behind p.1 ch p.2, numThen ch p.2)
def atC (cs : List Col) (chs : List Ch) : List Col × Int := chs.foldl stepC (cs, (cs.length : Int))
/-- the columns of the first so many editions -/
def edsTo (cs : List Col) (chs : List Ch) (n : Nat) : List (List Col) := (List.range n).map fun i => (atC cs (chs.take i)).1
theorem atC_snoc {cs : List Col} {chs : List Ch} {i : Nat} {ch : Ch} (h : chs[i]? = some ch) : atC cs (chs.take (i + 1)) = stepC (atC cs (chs.take i)) ch := by
  unfold atC
  rw [List.take_add_one, h, List.foldl_append]
  rfl
theorem edsTo_succ {cs : List Col} {chs : List Ch} {n : Nat} : edsTo cs chs (n + 1) = edsTo cs chs n ++ [(atC cs (chs.take n)).1] := by
  unfold edsTo
  rw [List.range_succ, List.map_append]
  rfl
/-- each change can be done -/
def Fits (cs : List Col) (chs : List Ch) : Prop := ∀ i ch, chs[i]? = some ch → ch.fits = true ∧ hindV (atC cs (chs.take i)).1 ch = .non
theorem Fits.good {cs : List Col} {chs : List Ch} (g : Good cs cs.length) (f : Fits cs chs) : ∀ i, i ≤ chs.length → Good (atC cs (chs.take i)).1 (atC cs (chs.take i)).2
  | 0, _ => g
  | i + 1, h => by
    have e : chs[i]? = some chs[i] := List.getElem?_eq_getElem (by omega)
    have ih := f.good g i (by omega)
    rw [atC_snoc e]
    exact ih.step (f i _ e).1 (f i _ e).2
/-- the changes at the addresses -/
inductive Chs (K : PySem.W.Frag) (H : Hp) : List Addr → List Ch → Prop
  | nil : Chs K H [] []
  | cons {a : Addr} {as : List Addr} {c : Ch} {cs : List Ch} : ChAt K H a c → Chs K H as cs → Chs K H (a :: as) (c :: cs)
theorem Chs.keep {K : PySem.W.Frag} {H H' : Hp} (s : Same H H') : ∀ {as : List Addr} {cs : List Ch}, Chs K H as cs → Chs K H' as cs
  | _, _, .nil => .nil
  | _, _, .cons h t => .cons (h.keep s) (t.keep s)
theorem Chs.len {K : PySem.W.Frag} {H : Hp} : ∀ {as : List Addr} {cs : List Ch}, Chs K H as cs → as.length = cs.length
  | _, _, .nil => rfl
  | _, _, .cons _ t => congrArg Nat.succ t.len
theorem Chs.at_ {K : PySem.W.Frag} {H : Hp} : ∀ {as : List Addr} {cs : List Ch} {i : Nat} {a : Addr}, Chs K H as cs → as[i]? = some a → ∃ c, cs[i]? = some c ∧ ChAt K H a c
  | _, _, _, _, .nil, e => by simp at e
  | _, _, 0, _, .cons h t, e => by
    simp at e
    subst e
    exact ⟨_, rfl, h⟩
  | _, _, i + 1, a, .cons h t, e => by
    obtain ⟨c, h1, h2⟩ := Chs.at_ (i := i) (a := a) t (by simpa using e)
    exact ⟨c, by simpa using h1, h2⟩
def sp_coe (K : PySem.W.Frag) : Sp := fun vs H Q _ => ∃ (l t : Addr) (as ts : List Addr) (cs : List Col) (chs : List Ch) (bb : Bool), vs = [.ref l, .ref t] ∧ H l = some (.lst (as.map V.ref)) ∧ Cols K H as cs ∧ SqB K bb H t (ts.map V.ref) ∧ Chs K H ts chs ∧ Good cs cs.length ∧ Fits cs chs ∧ chs.length ≤ 40 ∧
  ∀ (l' : Addr) (es : List Addr) (H' : Hp), H l' = none → Same H H' → H' l' = some (.lst (es.map V.ref)) → Eds K H' es (edsTo cs chs (chs.length + 1)) → Q (.ref l') H'
def sp_coeN (K : PySem.W.Frag) : Sp := fun vs H Q _ => ∃ (l t : Addr) (as ts : List Addr) (cs : List Col) (chs : List Ch) (bb : Bool), vs = [.ref l, .ref t] ∧ H l = some (.lst (as.map V.ref)) ∧ Cols K H as cs ∧ SqB K bb H t (ts.map V.ref) ∧ Chs K H ts chs ∧ Good cs cs.length ∧ Fits cs chs ∧ chs.length ≤ 40 ∧
  ∀ (l' : Addr) (es : List Addr) (H' : Hp), H l' = none → Same H H' → H' l' = some (.lst (es.map V.ref)) → Eds K H' es (edsTo cs chs (chs.length + 1)) → (∀ x ∈ es, x = l ∨ H x = none) → Q (.ref l') H'
theorem Eds.mut {K : PySem.W.Frag} {H : Hp} {p : Addr} {o : HO} {xs : List V} (hp : H p = some (.lst xs)) : ∀ {es : List Addr} {eds : List (List Col)}, Eds K H es eds → (∀ e ∈ es, e ≠ p) → Eds K (upd H p o) es eds
  | _, _, .nil, _ => .nil
  | _, _, .cons (e := e) as h c t, hne => by
    refine .cons as (by rw [upd_ne (hne e List.mem_cons_self)]; exact h) (Cols.all c.len fun i a c' h1 h2 => ?_) (t.mut hp fun e' he => hne e' (List.mem_cons_of_mem _ he))
    obtain ⟨dx, q⟩ := c.two h1 h2
    exact ⟨dx, by rw [upd_ne (fun z => by rw [z, hp] at q; cases q)]; exact q⟩
theorem ok_columns_of_editionsN (T : Tx K mg) : Callee P w K mg base CX0 9 "columns_of_editions" ["first", "changes"] [] (sp_coeN K) := by
  have C1 := (ok_is_listG (P := P) (w := w) (base := base) T).up (show 1 ≤ 8 by decide)
  have C2 := (ok_is_change (P := P) (w := w) (base := base) T).up (show 5 ≤ 8 by decide)
  have C3 := (ok_hindrance (P := P) (w := w) (base := base) T).up (show 5 ≤ 8 by decide)
  have C4 := ok_columns_behind (P := P) (w := w) (base := base) T
  have C5 := (ok_kind_of (P := P) (w := w) (base := base) T).up (show 1 ≤ 8 by decide)
  obtain ⟨tM, eM⟩ := mi_MOST_CHANGES T
  refine mkCallee (fd_columns_of_editions T) (mg_columns_of_editions T) sc_columns_of_editions (fun _ _ _ _ _ _ us hl => match us, hl with | [_, _], _ => rfl) (fun vs H Q E h => ?_) (fun cdv A outer s H vs Q E hr h => ?_)
  · obtain ⟨l, t, as, ts, cs, chs, bb, rfl, _⟩ := h
    rfl
  · obtain ⟨l, t, as, ts, cs, chs, bb, rfl, hl, hc, ht, hch, hgood, hfit, h40, k⟩ := h
    have nd := sc_columns_of_editions.nd
    refine ⟨_, pss_cons (ps_if (pt_not (pt_val (pcall C1 hr (pa_cons (pv 1) pa_nil)))) (pss_one ps_never) pss_nil)
      (pss_cons (ps_set (i := 2) nd rfl (Or.inl rfl) (pe_lst (pa_cons (pv 0) pa_nil)))
      (pss_cons (ps_set (i := 3) nd rfl (Or.inl rfl) (pe_callB call_len_seq (by rfl) (fr_len T) PySem.boot_len (pa_cons (pv 0) pa_nil)))
      (pss_cons (ps_for PassesOwn.never rfl (pi_enumB (by rfl) (fr_enumerate T) (pa_cons (pv 1) pa_nil)) (pg_tup rfl (pgs_cons (pg_name (i := 4) nd rfl (Or.inl rfl)) (pgs_cons (pg_name (i := 5) nd rfl (Or.inl rfl)) pgs_nil)))
        (pss_cons (ps_set (i := 6) nd rfl (Or.inl rfl) (pe_ix ix_list (pv 2) (pe_un un_neg pe_int) (fun _ _ => rfl)))
        (pss_cons (ps_if (PW.pt (pw_or (pt_not (pt_val (pcall C2 hr (pa_cons (pv 5) pa_nil)))) (pw_or1 (pt_cmpR op_notN (pcall C3 hr (pa_cons (pv 6) (pa_cons (pv 5) pa_nil))) pe_non (nomark _))))) (pss_one ps_never) pss_nil)
        (pss_cons (ps_expr (pe_bm PySem.F.plainAttrs_list PySem.F.slot_list_append PySem.F.type_list_append mt_append (pv 2) (pa_cons (pcall C4 hr (pa_cons (pv 6) (pa_cons (pv 5) (pa_cons (pv 3) pa_nil)))) pa_nil)))
        (pss_one (ps_if (pt_cmpR op_eq (pcall C5 hr (pa_cons (pv 5) pa_nil)) pe_str (nomark _)) (pss_one (ps_aug (i := 3) nd rfl (Or.inl rfl) pe_int ip_add)) pss_nil))))))
      (pss_cons (ps_if (pt_cmpR op_gt (pe_callB call_len_seq (by rfl) (fr_len T) PySem.boot_len (pa_cons (pv 1) pa_nil)) (pe_glob (v := .int 40) (by rfl) eM ⟨_, rfl⟩) (nomark _)) (pss_one ps_never) pss_nil)
      (pss_one (ps_ret (pv 2))))))), ?_⟩
    refine ⟨_, rfl, t, _, rfl, ht.or, fun H1 s1 => ⟨_, rfl, iteF ⟨_, rfl, by show 1 ≤ sizeLine; decide, fun p np => ?_⟩⟩⟩
    have hp0 : H p = none := s1.free np
    have s2 : Same H (upd H1 p (.lst [.ref l])) := s1.trans (same_new np)
    have hp2 : upd H1 p (.lst [.ref l]) p = some (.lst ([l].map V.ref)) := upd_same
    generalize upd H1 p (.lst [.ref l]) = H2 at s2 hp2 ⊢
    have lp : l ≠ p := fun z => by rw [z, hp0] at hl; cases hl
    refine ⟨_, rfl, l, _, rfl, .inl (sqL_of (s2 _ _ hl)), ?_⟩
    rw [List.length_map, hc.len]
    refine ⟨_, rfl, t, ts.map V.ref, bb, rfl, ht.keep s2, ?_⟩
    refine for_it walk_enumB (fun i σ H' => Same H H' ∧ (∃ es, es.length = i + 1 ∧ H' p = some (.lst (es.map V.ref)) ∧ Eds K H' es (edsTo cs chs (i + 1)) ∧ ∀ e ∈ es, e ≠ p ∧ (e = l ∨ H e = none)) ∧ ∃ x y z, σ = [some (.ref l), some (.ref t), some (.ref p), some (.int (atC cs (chs.take i)).2), x, y, z])
      ⟨s2, ⟨[l], rfl, hp2, .cons as (s2 _ _ hl) (hc.keep s2) .nil, fun e he => by rw [List.mem_singleton.mp he]; exact ⟨lp, .inl rfl⟩⟩, _, _, _, rfl⟩ (fun i σ H' _ h => ht.keep h.1) ?_ ?_
    · rintro i v σ H3 H4 hi ⟨s3, ⟨es, hes, hp3, hE, hne⟩, x, y, z, rfl⟩ ⟨T1, x', y', rfl, nT, rfl, ex, ey⟩
      obtain rfl := Option.some.inj ex
      have ey : (ts.map V.ref)[i]? = some y' := ey
      rw [List.getElem?_map] at ey
      cases ha : ts[i]? with
      | none =>
        rw [ha] at ey
        cases ey
      | some a =>
        rw [ha] at ey
        obtain rfl := Option.some.inj ey
        obtain ⟨ch, hci, hat⟩ := hch.at_ ha
        have hi2 : i < chs.length := (List.getElem?_eq_some_iff.mp hci).1
        have gd := hfit.good hgood i (Nat.le_of_lt hi2)
        obtain ⟨fit, hind⟩ := hfit i ch hci
        have gd2 := gd.step fit hind
        have s4 : Same H (upd H3 T1 (.tup [.int (i : Nat), .ref a])) := s3.trans (same_new nT)
        have hp4 : upd H3 T1 (.tup [.int (i : Nat), .ref a]) p = some (.lst (es.map V.ref)) := same_new nT _ _ hp3
        have hE4 : Eds K (upd H3 T1 (.tup [.int (i : Nat), .ref a])) es (edsTo cs chs (i + 1)) := hE.keep (same_new nT)
        refine ⟨T1, _, rfl, sqT_of upd_same, rfl, _, _, rfl, _, _, rfl, rfl, ?_⟩
        generalize upd H3 T1 (.tup [.int (i : Nat), .ref a]) = H4 at s4 hp4 hE4 ⊢
        have hlast : es[i]? = some es[i] := List.getElem?_eq_getElem (by omega)
        obtain ⟨cs1, as1, hcs1, hea, hc1⟩ := hE4.at_ hlast
        have ecs : cs1 = (atC cs (chs.take i)).1 := by
          rw [edsTo_succ, List.getElem?_append_right (by unfold edsTo; rw [List.length_map, List.length_range]; exact Nat.le_refl _)] at hcs1
          unfold edsTo at hcs1
          rw [List.length_map, List.length_range, Nat.sub_self] at hcs1
          exact (Option.some.inj hcs1).symm
        subst ecs
        have am1 : atI (es.map V.ref) (-1) = some (.ref es[i]) := by
          unfold atI ixN
          rw [if_neg (by omega), if_pos (by rw [List.length_map]; omega), List.length_map, show ((-1 : Int) + (es.length : Nat)).toNat = i by omega]
          show (es.map V.ref)[i]? = _
          rw [List.getElem?_map, hlast]
          rfl
        refine ⟨_, rfl, 1, rfl, p, _, -1, _, rfl, rfl, sqL_of hp4, am1, ?_⟩
        refine ⟨_, rfl, a, ch, rfl, hat.keep s4, fit, fun H5 s5 => ⟨_, rfl, iteF ⟨_, rfl, _, rfl, es[i], a, as1, _, ch, rfl, .inl (sqL_of (s5 _ _ hea)), hc1.keep s5, fun e he => isIn_ok (gd.ok e he).1.df, (hat.keep s4).keep s5, fit, fun H6 s6 => ?_⟩⟩⟩
        rw [hind]
        refine ⟨rfl, _, rfl, iteF ?_⟩
        have s46 := s5.trans s6
        have s06 : Same H H6 := s4.trans s46
        have hp6 := s46 _ _ hp4
        have hE6 := hE4.keep s46
        have len1 : as1.length ≤ 1000 := by rw [hc1.len]; have := gd.six; omega
        refine ⟨_, rfl, .inl ⟨rfl, _, sqL_of hp6⟩, _, rfl, _, rfl, _, rfl, es[i], a, as1, _, ch, _, rfl, sqL_of (s46 _ _ hea), hc1.keep s46, hat.keep s06, len1, gd.nn, fun c hcm => (gd.ok c hcm).1, fun c hcm => (gd2.ok c hcm).1, fun e' as' H7 n7 s7 he7 hc7 => ?_⟩
        have hp7 := s7 _ _ hp6
        have e7p : e' ≠ p := fun z => by rw [z, hp6] at n7; cases n7
        refine ⟨p, _, _, rfl, rfl, hp7, ?_, ?_⟩
        · rw [List.length_map, hes]
          exact Nat.lt_of_le_of_lt (show i + 1 ≤ 1000 by omega) (by decide)
        have s8 : Same H (upd H7 p (.lst (es.map V.ref ++ [.ref e']))) := same_mut (s06.trans s7) hp0
        have hE8 : Eds K (upd H7 p (.lst (es.map V.ref ++ [.ref e']))) (es ++ [e']) (edsTo cs chs (i + 1 + 1)) := by
          rw [edsTo_succ, atC_snoc hci]
          refine Eds.mut hp7 (Eds.snoc he7 hc7 (hE6.keep s7)) fun e he => ?_
          rcases List.mem_append.mp he with he | he
          · exact (hne e he).1
          · rw [List.mem_singleton.mp he]
            exact e7p
        have hp8 : upd H7 p (.lst (es.map V.ref ++ [.ref e'])) p = some (.lst ((es ++ [e']).map V.ref)) := by rw [upd_same, List.map_append]; rfl
        generalize upd H7 p (.lst (es.map V.ref ++ [.ref e'])) = H8 at s8 hE8 hp8 ⊢
        have hne8 : ∀ e ∈ es ++ [e'], e ≠ p ∧ (e = l ∨ H e = none) := fun e he => by
          rcases List.mem_append.mp he with he | he
          · exact hne e he
          · rw [List.mem_singleton.mp he]
            exact ⟨e7p, .inr (s06.free n7)⟩
        have hl8 : (es ++ [e']).length = i + 1 + 1 := by rw [List.length_append, hes]; rfl
        have e2 : (atC cs (chs.take (i + 1))).2 = numThen ch (atC cs (chs.take i)).2 := by rw [atC_snoc hci]; rfl
        refine ⟨_, rfl, a, ch, rfl, hat.keep s8, rfl, _, rfl, ?_⟩
        by_cases ea : ch.kind = "add"
        · rw [decide_eq_true (show V.str ch.kind = V.str "add" by rw [ea])]
          refine iteT ⟨_, rfl, _, _, rfl, rfl, s8, ⟨_, hl8, hp8, hE8, hne8⟩, some (.int (i : Nat)), some (.ref a), some (.ref es[i]), ?_⟩
          rw [e2, show numThen ch (atC cs (chs.take i)).2 = (atC cs (chs.take i)).2 + 1 from kind_add ea]
          rfl
        · rw [decide_eq_false (fun z => ea (V.str.inj z))]
          refine iteF ⟨s8, ⟨_, hl8, hp8, hE8, hne8⟩, some (.int (i : Nat)), some (.ref a), some (.ref es[i]), ?_⟩
          rw [e2, show numThen ch (atC cs (chs.take i)).2 = (atC cs (chs.take i)).2 from kind_noadd ea]
          rfl
    · rintro σ H3 ⟨s3, ⟨es, hes, hp3, hE, hne⟩, x, y, z, rfl⟩
      refine ⟨_, rfl, t, _, rfl, (ht.keep s3).or, _, _, rfl, rfl, _, rfl, ?_⟩
      rw [List.length_map, hch.len, decide_eq_false (by omega)]
      rw [List.length_map, hch.len] at hE
      exact iteF ⟨_, rfl, k p es H3 hp0 s3 hp3 hE fun x hx => (hne x hx).2⟩
theorem ok_columns_of_editions (T : Tx K mg) : Callee P w K mg base CX0 9 "columns_of_editions" ["first", "changes"] [] (sp_coe K) := by
  obtain ⟨⟨fd, ds, F, b, v⟩, kp, g⟩ := ok_columns_of_editionsN (P := P) (w := w) (base := base) T
  refine ⟨⟨fd, ds, F.imp fun vs H Q E h => ?_, b, v⟩, kp, g⟩
  obtain ⟨l, t, as, ts, cs, chs, bb, e, h1, h2, h3, h4, h5, h6, h7, k⟩ := h
  exact ⟨l, t, as, ts, cs, chs, bb, e, h1, h2, h3, h4, h5, h6, h7, fun l' es H' a1 a2 a3 a4 _ => k l' es H' a1 a2 a3 a4⟩
theorem ixN_ok {n : Nat} {i : Int} (h : 0 ≤ i) (h2 : i < n) : ixN n i = some i.toNat := by
  unfold ixN
  rw [if_pos h, if_pos h2]

/-! drops -/
def gone (next : List Col) (c : Col) : Bool := (next.find? (isK c.num)).isNone
def dropStep (next : List Col) (i : Nat) (d : List V) (c : Col) : List V := if gone next c = true then d.set c.num.toNat (.int (i : Nat)) else d
def dropTo (eds : List (List Col)) (m : Nat) : Nat → List V
  | 0 => List.replicate m .non
  | i + 1 => (eds.getD i []).foldl (dropStep (eds.getD (i + 1) []) (i + 1)) (dropTo eds m i)
def dropOf (eds : List (List Col)) (m : Nat) : List V := dropTo eds m (eds.length - 1)
theorem dropStep_len (next : List Col) (i : Nat) : ∀ (cs : List Col) (d : List V), (cs.foldl (dropStep next i) d).length = d.length
  | [], d => rfl
  | c :: cs, d => by
    refine (dropStep_len next i cs _).trans ?_
    unfold dropStep
    split
    · exact List.length_set
    · rfl
theorem dropTo_len (eds : List (List Col)) (m : Nat) : ∀ i, (dropTo eds m i).length = m
  | 0 => List.length_replicate
  | i + 1 => (dropStep_len _ _ _ _).trans (dropTo_len eds m i)
theorem flat_rep : ∀ n : Nat, (List.replicate n [V.non]).flatten = List.replicate n V.non
  | 0 => rfl
  | n + 1 => by
    rw [List.replicate_succ, List.flatten_cons, flat_rep n]
    rfl
def sp_drops (K : PySem.W.Frag) : Sp := fun vs H Q _ => ∃ (l : Addr) (es : List Addr) (eds : List (List Col)) (m : Nat), vs = [.ref l, .int (m : Nat)] ∧ H l = some (.lst (es.map V.ref)) ∧ Eds K H es eds ∧ 1 ≤ eds.length ∧ eds.length ≤ 50 ∧ m ≤ 100000 ∧ (∀ cs ∈ eds, ∀ c ∈ cs, 0 ≤ c.num ∧ c.num < m) ∧
  ∀ (p : Addr) (H' : Hp), H p = none → Same H H' → H' p = some (.lst (dropOf eds m)) → Q (.ref p) H'
theorem ok_drops (T : Tx K mg) : Callee P w K mg base CX0 3 "drops" ["editions", "many"] [] (sp_drops K) := by
  have C1 := ok_column_numbered (P := P) (w := w) (base := base) T
  refine mkCallee (fd_drops T) (mg_drops T) sc_drops (fun _ _ _ _ _ _ us hl => match us, hl with | [_, _], _ => rfl) (fun vs H Q E h => ?_) (fun cdv A outer s H vs Q E hr h => ?_)
  · obtain ⟨l, es, eds, m, rfl, _⟩ := h
    rfl
  · obtain ⟨l, es, eds, m, rfl, hl, he, h1, h50, hm, hn, k⟩ := h
    have nd := sc_drops.nd
    refine ⟨_, pss_cons (ps_set (i := 2) nd rfl (Or.inl rfl) (pe_op op_rep (pe_lst (pa_cons pe_non pa_nil)) (pv 1)))
      (pss_cons (ps_for PassesOwn.never rfl (pi_range2 (by rfl) (fr_range T) (pa_cons pe_int (pa_cons (pe_callB call_len_seq (by rfl) (fr_len T) PySem.boot_len (pa_cons (pv 0) pa_nil)) pa_nil))) (pg_name (i := 3) nd rfl (Or.inl rfl))
        (pss_one (ps_for PassesOwn.never rfl (pi_list (pe_ix ix_list (pv 0) (pe_op op_sub (pv 3) pe_int) (fun _ _ => rfl))) (pg_name (i := 4) nd rfl (Or.inl rfl))
          (pss_one (ps_if (pt_cmpR op_isN (pcall C1 hr (pa_cons (pe_ix ix_list (pv 0) (pv 3) (fun _ _ => rfl)) (pa_cons (pe_fld (pv 4) rfl) pa_nil))) pe_non (nomark _))
            (pss_one (ps_asg (pv 3) (pg_sub (pv 2) (pe_fld (pv 4) rfl) set_list))) pss_nil))))) (pss_one (ps_ret (pv 2)))), ?_⟩
    have m0 : Eds K H es eds := he
    have lenE := he.len
    refine ⟨by show 1 ≤ sizeLine; decide, fun q nq => ⟨_, rfl, q, (m : Nat), [.non], rfl, rfl, upd_same, by omega, by omega, ?_, fun d nd' => ?_⟩⟩
    · rw [Int.toNat_natCast]
      exact Nat.le_trans (by show 1 * m ≤ 100000; omega) (by decide)
    rw [Int.toNat_natCast, flat_rep]
    have hd0 : H d = none := (same_new nq).free nd'
    have s0 : Same H (upd (upd H q (.lst [.non])) d (.lst (List.replicate m .non))) := (same_new nq).trans (same_new nd')
    have hd : upd (upd H q (.lst [.non])) d (.lst (List.replicate m .non)) d = some (.lst (dropTo eds m 0)) := upd_same
    generalize upd (upd H q (.lst [.non])) d (.lst (List.replicate m .non)) = H1 at s0 hd ⊢
    refine ⟨_, rfl, l, _, rfl, .inl (sqL_of (s0 _ _ hl)), 1, _, rfl, ?_, ?_⟩
    · rw [List.length_map]
      omega
    rw [List.length_map, lenE]
    refine for_range (fun i σ H' => Same H H' ∧ H' d = some (.lst (dropTo eds m i)) ∧ ∃ x y, σ = [some (.ref l), some (.int (m : Nat)), some (.ref d), x, y]) ⟨s0, hd, _, _, rfl⟩ ?_ ?_
    · rintro i σ H1 hi ⟨s1, hd1, x, y, rfl⟩
      have hi1 : i < es.length := by omega
      have hi2 : i + 1 < es.length := by omega
      obtain ⟨cs, as, hcs, hea, hc⟩ := he.at_ (List.getElem?_eq_getElem hi1)
      obtain ⟨cs2, as2, hcs2, hea2, hc2⟩ := he.at_ (List.getElem?_eq_getElem hi2)
      have hgd : eds.getD i [] = cs := by rw [List.getD_eq_getElem?_getD, hcs]; rfl
      have hgd2 : eds.getD (i + 1) [] = cs2 := by rw [List.getD_eq_getElem?_getD, hcs2]; rfl
      have a1 : atI (es.map V.ref) (1 + (i : Int) - 1) = some (.ref es[i]) := by
        unfold atI
        rw [ixN_ok (by omega) (by rw [List.length_map]; omega), show (1 + (i : Int) - 1).toNat = i by omega]
        show (es.map V.ref)[i]? = _
        rw [List.getElem?_map, List.getElem?_eq_getElem hi1]
        rfl
      have a2 : atI (es.map V.ref) (1 + (i : Int)) = some (.ref es[i + 1]) := by
        unfold atI
        rw [ixN_ok (by omega) (by rw [List.length_map]; omega), show (1 + (i : Int)).toNat = i + 1 by omega]
        show (es.map V.ref)[i + 1]? = _
        rw [List.getElem?_map, List.getElem?_eq_getElem hi2]
        rfl
      refine ⟨_, rfl, _, rfl, 1 + (i : Int), 1, rfl, rfl, l, _, 1 + (i : Int) - 1, _, rfl, rfl, sqL_of (s1 _ _ hl), a1, es[i], rfl, ⟨_, sqL_of (s1 _ _ hea)⟩, ?_⟩
      refine for_list (xs := as.map V.ref) (fun j σ H' => Same H H' ∧ H' d = some (.lst ((cs.take j).foldl (dropStep cs2 (i + 1)) (dropTo eds m i))) ∧ ∃ y, σ = [some (.ref l), some (.int (m : Nat)), some (.ref d), some (.int (1 + (i : Int))), y]) ⟨s1, hd1, _, rfl⟩ (fun j σ H' _ h => sqL_of (h.1 _ _ hea)) ?_ ?_
      · rintro j x σ H3 hx ⟨s3, hd3, z, rfl⟩
        rw [List.getElem?_map] at hx
        cases ha : as[j]? with
        | none =>
          rw [ha] at hx
          cases hx
        | some a =>
          rw [ha] at hx
          obtain rfl := Option.some.inj hx
          obtain ⟨c, hci, dx, hat⟩ := hc.at_ ha
          have et : cs.take (j + 1) = cs.take j ++ [c] := by rw [List.take_add_one, hci]; rfl
          have cn := hn cs (List.mem_of_getElem? hcs) c (List.mem_of_getElem? hci)
          refine ⟨_, rfl, _, rfl, l, _, 1 + (i : Int), _, rfl, rfl, sqL_of (s3 _ _ hl), a2, _, rfl, a, _, dx, _, _, rfl, s3 _ _ hat, cl_Column T, na_Column_number T, colFs_number, es[i + 1], as2, cs2, c.num, rfl, sqL_of (s3 _ _ hea2), hc2.keep s3, fun v hv => ?_⟩
          refine ⟨rfl, _, rfl, ?_⟩
          have eg : decide (v = V.non) = gone cs2 c := by
            unfold gone
            rcases hv with ⟨rfl, e⟩ | ⟨i', a', c', rfl, _, _, e⟩
            · rw [e]; rfl
            · rw [e]; rfl
          rw [eg]
          cases hg : gone cs2 c with
          | true =>
            refine iteT ⟨_, rfl, _, rfl, _, rfl, a, _, dx, _, _, rfl, s3 _ _ hat, cl_Column T, na_Column_number T, colFs_number, d, _, c.num, c.num.toNat, rfl, rfl, hd3, ixN_ok cn.1 ?_, same_mut s3 hd0, ?_, _, rfl⟩
            · rw [dropStep_len, dropTo_len]
              exact cn.2
            · rw [upd_same, et, List.foldl_append, List.foldl_cons, List.foldl_nil]
              show _ = some (HO.lst (if gone cs2 c = true then _ else _))
              rw [if_pos hg, show (1 + (i : Int)) = ((i + 1 : Nat) : Int) by omega]
          | false =>
            refine iteF ⟨s3, ?_, _, rfl⟩
            rw [hd3, et, List.foldl_append, List.foldl_cons, List.foldl_nil]
            show _ = some (HO.lst (if gone cs2 c = true then _ else _))
            rw [if_neg (by rw [hg]; decide)]
      · rintro σ H3 ⟨s3, hd3, z, rfl⟩
        refine ⟨s3, ?_, _, _, rfl⟩
        rw [List.length_map, hc.len, List.take_length] at hd3
        rw [hd3]
        show _ = some (HO.lst ((eds.getD i []).foldl (dropStep (eds.getD (i + 1) []) (i + 1)) (dropTo eds m i)))
        rw [hgd, hgd2]
    · rintro σ H1 ⟨s1, hd1, x, y, rfl⟩
      have e : (((eds.length : Nat) : Int) - 1).toNat = eds.length - 1 := by omega
      rw [e] at hd1
      exact ⟨_, rfl, k d H1 hd0 s1 hd1⟩
/-! History.__init__, of lists where all is well; what stands in a History -/
def histFs (e c b d : Addr) : List (Str × V) := [("_editions", .ref e), ("_changes", .ref c), ("_births", .ref b), ("_drops", .ref d)]
theorem hist_put2 (e c : Addr) : putF "_changes" (.ref c) (putF "_editions" (.ref e) []) = ([("_editions", .ref e), ("_changes", .ref c)] : List (Str × V)) := by
  have h1 : ¬ (("_editions" : Str) = "_changes") := by decide +kernel
  simp only [putF, if_neg h1]
theorem hist_put3 (e c b : Addr) : putF "_births" (.ref b) (putF "_changes" (.ref c) (putF "_editions" (.ref e) [])) = ([("_editions", .ref e), ("_changes", .ref c), ("_births", .ref b)] : List (Str × V)) := by
  have h1 : ¬ (("_editions" : Str) = "_births") := by decide +kernel
  have h2 : ¬ (("_changes" : Str) = "_births") := by decide +kernel
  rw [hist_put2]
  simp only [putF, if_neg h1, if_neg h2]
theorem hist_put4 (e c b d : Addr) : putF "_drops" (.ref d) (putF "_births" (.ref b) (putF "_changes" (.ref c) (putF "_editions" (.ref e) []))) = histFs e c b d := by
  have h1 : ¬ (("_editions" : Str) = "_drops") := by decide +kernel
  have h2 : ¬ (("_changes" : Str) = "_drops") := by decide +kernel
  have h3 : ¬ (("_births" : Str) = "_drops") := by decide +kernel
  rw [hist_put3]
  simp only [putF, if_neg h1, if_neg h2, if_neg h3]
  rfl
theorem histFs_editions {e c b d : Addr} : (histFs e c b d).lookup ("_editions" : Str) = some (.ref e) := by
  unfold histFs
  simp [List.lookup]
theorem histFs_changes {e c b d : Addr} : (histFs e c b d).lookup ("_changes" : Str) = some (.ref c) := by
  have h1 : (("_changes" : Str) == "_editions") = false := by decide +kernel
  unfold histFs
  simp [List.lookup, h1]
theorem histFs_births {e c b d : Addr} : (histFs e c b d).lookup ("_births" : Str) = some (.ref b) := by
  have h1 : (("_births" : Str) == "_editions") = false := by decide +kernel
  have h2 : (("_births" : Str) == "_changes") = false := by decide +kernel
  unfold histFs
  simp [List.lookup, h1, h2]
theorem histFs_drops {e c b d : Addr} : (histFs e c b d).lookup ("_drops" : Str) = some (.ref d) := by
  have h1 : (("_drops" : Str) == "_editions") = false := by decide +kernel
  have h2 : (("_drops" : Str) == "_changes") = false := by decide +kernel
  have h3 : (("_drops" : Str) == "_births") = false := by decide +kernel
  unfold histFs
  simp [List.lookup, h1, h2, h3]
/-- the numbers of a beginning are those of the places -/
def Placed (cs : List Col) : Prop := ∀ (i : Nat) (c : Col), cs[i]? = some c → c.num = ((i : Nat) : Int)
theorem bornSame {i : Nat} : ∀ {cs : List Col} {b : List Int}, (∀ c ∈ cs, c.num < b.length) → cs.foldl (bornStep i) b = b
  | [], _, _ => rfl
  | c :: cs, b, h => by
    rw [List.foldl_cons, bornStep_neg (by have := h c List.mem_cons_self; omega)]
    exact bornSame fun c' hc => h c' (List.mem_cons_of_mem _ hc)
theorem bornAll {i : Nat} : ∀ {cs : List Col} {b : List Int}, (∀ j c, cs[j]? = some c → c.num = ((b.length + j : Nat) : Int)) → (cs.foldl (bornStep i) b).length = b.length + cs.length
  | [], _, _ => rfl
  | c :: cs, b, h => by
    have h0 : c.num = b.length := by have := h 0 c rfl; simpa using this
    have ht : ∀ j c', cs[j]? = some c' → c'.num = (((b ++ [(i : Int)]).length + j : Nat) : Int) := fun j c' hc => by
      have := h (j + 1) c' (by simpa using hc)
      rw [List.length_append]
      show c'.num = ((b.length + 1 + j : Nat) : Int)
      omega
    have ih := bornAll (i := i) ht
    have e1 : (b ++ [(i : Int)]).length = b.length + 1 := by rw [List.length_append]; rfl
    rw [List.foldl_cons, bornStep_pos h0, ih, e1, List.length_cons]
    omega
theorem edsTo_get {cs : List Col} {chs : List Ch} {n i : Nat} (h : i < n) : (edsTo cs chs n)[i]? = some (atC cs (chs.take i)).1 := by
  unfold edsTo
  rw [List.getElem?_map, List.getElem?_range h]
  rfl
theorem edsTo_len {cs : List Col} {chs : List Ch} {n : Nat} : (edsTo cs chs n).length = n := by
  unfold edsTo
  rw [List.length_map, List.length_range]
theorem born_step {cs : List Col} {n : Int} {ch : Ch} {i : Nat} {b : List Int} (g : Good cs n) (g2 : Good (behind cs ch n) (numThen ch n)) (hb : (b.length : Int) = n) : (((behind cs ch n).foldl (bornStep i) b).length : Int) = numThen ch n := by
  by_cases k : ch.kind = "add"
  · rw [kind_add k]
    cases ch with
    | add nm gr d =>
      have hs : cs.foldl (bornStep i) b = b := bornSame fun c hc => by rw [hb]; exact (g.ok c hc).2
      rw [show behind cs (.add nm gr d) n = cs ++ [⟨nm, gr, d, n⟩] from rfl, List.foldl_append, hs, List.foldl_cons, List.foldl_nil, bornStep_pos (show n = _ from hb.symm), List.length_append]
      show ((b.length + 1 : Nat) : Int) = _
      omega
    | drop _ => exact absurd (show ("drop" : Str) = "add" from k) (by decide +kernel)
    | rename _ _ => exact absurd (show ("rename" : Str) = "add" from k) (by decide +kernel)
    | dflt _ _ => exact absurd (show ("default" : Str) = "add" from k) (by decide +kernel)
    | great _ _ _ => exact absurd (show ("greatest" : Str) = "add" from k) (by decide +kernel)
    | fill _ _ => exact absurd (show ("fill" : Str) = "add" from k) (by decide +kernel)
  · rw [kind_noadd k] at g2 ⊢
    have hs : (behind cs ch n).foldl (bornStep i) b = b := bornSame fun c hc => by rw [hb]; exact (g2.ok c hc).2
    rw [hs]
    exact hb
theorem born_zero {cs : List Col} {chs : List Ch} (pl : Placed cs) : ((bornTo (edsTo cs chs (chs.length + 1)) 1).length : Int) = (cs.length : Int) := by
  show (((List.getD (edsTo cs chs (chs.length + 1)) 0 []).foldl (bornStep 0) []).length : Int) = (cs.length : Int)
  rw [List.getD_eq_getElem?_getD, edsTo_get (by omega)]
  show ((cs.foldl (bornStep 0) []).length : Int) = _
  have ha := bornAll (i := 0) (cs := cs) (b := []) fun j c hc => by rw [pl j c hc]; simp
  rw [ha]
  simp
theorem Fits.born {cs : List Col} {chs : List Ch} (pl : Placed cs) (g : Good cs cs.length) (f : Fits cs chs) (i : Nat) (h : i ≤ chs.length) : ((bornTo (edsTo cs chs (chs.length + 1)) (i + 1)).length : Int) = (atC cs (chs.take i)).2 := by
  induction i with
  | zero => exact born_zero pl
  | succ i ih =>
    have ih := ih (by omega)
    obtain ⟨ch, e⟩ : ∃ ch, chs[i]? = some ch := ⟨_, List.getElem?_eq_getElem (by omega)⟩
    have gd := f.good g i (by omega)
    have gd2 := gd.step (f i _ e).1 (f i _ e).2
    have eb : bornTo (edsTo cs chs (chs.length + 1)) (i + 1 + 1) = (behind (atC cs (chs.take i)).1 ch (atC cs (chs.take i)).2).foldl (bornStep (i + 1)) (bornTo (edsTo cs chs (chs.length + 1)) (i + 1)) := by
      show (List.getD (edsTo cs chs (chs.length + 1)) (i + 1) []).foldl (bornStep (i + 1)) _ = _
      rw [List.getD_eq_getElem?_getD, edsTo_get (by omega), atC_snoc e]
      rfl
    rw [atC_snoc e, eb]
    exact born_step gd gd2 ih
theorem grow1 {cs : List Col} {chs : List Ch} (j : Nat) : (atC cs (chs.take j)).2 ≤ (atC cs (chs.take (j + 1))).2 := by
  cases hj : chs[j]? with
  | none =>
    have : chs.take (j + 1) = chs.take j := by rw [List.take_add_one, hj]; simp
    rw [this]
    exact Int.le_refl _
  | some ch =>
    rw [atC_snoc hj]
    show _ ≤ numThen ch (atC cs (chs.take j)).2
    by_cases k : ch.kind = "add"
    · rw [kind_add k]
      omega
    · rw [kind_noadd k]
      exact Int.le_refl _
theorem grows {cs : List Col} {chs : List Ch} {i j : Nat} (h : i ≤ j) : (atC cs (chs.take i)).2 ≤ (atC cs (chs.take j)).2 := by
  induction j with
  | zero =>
    obtain rfl : i = 0 := by omega
    exact Int.le_refl _
  | succ j ih =>
    by_cases e : i = j + 1
    · rw [e]
      exact Int.le_refl _
    · exact Int.le_trans (ih (by omega)) (grow1 j)
/-- a History stands at h: its first columns (numbered) and its changes -/
def bornH (cs : List Col) (chs : List Ch) : List Int := bornOf (edsTo cs chs (chs.length + 1))
def HistAt (K : PySem.W.Frag) (H : Hp) (h : Addr) (cs : List Col) (chs : List Ch) : Prop := ∃ (dx e c b d : Addr) (es ts : List Addr), H h = some (.ins (He.ga K "History") dx (histFs e c b d)) ∧ H e = some (.lst (es.map V.ref)) ∧ Eds K H es (edsTo cs chs (chs.length + 1)) ∧ H c = some (.lst (ts.map V.ref)) ∧ Chs K H ts chs ∧
  H b = some (.lst ((bornH cs chs).map V.int)) ∧ H d = some (.lst (dropOf (edsTo cs chs (chs.length + 1)) (bornH cs chs).length))
theorem HistAt.keep {K : PySem.W.Frag} {H H' : Hp} {h : Addr} {cs : List Col} {chs : List Ch} (s : Same H H') (q : HistAt K H h cs chs) : HistAt K H' h cs chs := by
  obtain ⟨dx, e, c, b, d, es, ts, h1, h2, h3, h4, h5, h6, h7⟩ := q
  exact ⟨dx, e, c, b, d, es, ts, s _ _ h1, s _ _ h2, h3.keep s, s _ _ h4, h5.keep s, s _ _ h6, s _ _ h7⟩
/-- a History whose lists of births and drops were not there at H0 -/
def HistN (K : PySem.W.Frag) (H0 H : Hp) (h : Addr) (cs : List Col) (chs : List Ch) : Prop := ∃ (dx e c b d : Addr) (es ts : List Addr), (H h = some (.ins (He.ga K "History") dx (histFs e c b d)) ∧ H e = some (.lst (es.map V.ref)) ∧ Eds K H es (edsTo cs chs (chs.length + 1)) ∧ H c = some (.lst (ts.map V.ref)) ∧ Chs K H ts chs ∧
  H b = some (.lst ((bornH cs chs).map V.int)) ∧ H d = some (.lst (dropOf (edsTo cs chs (chs.length + 1)) (bornH cs chs).length))) ∧ H0 b = none ∧ H0 d = none
/-- .. all of whose lists were not there at H0 -/
def HistNN (K : PySem.W.Frag) (H0 H : Hp) (h : Addr) (cs : List Col) (chs : List Ch) : Prop := ∃ (dx e c b d : Addr) (es ts : List Addr), (H h = some (.ins (He.ga K "History") dx (histFs e c b d)) ∧ H e = some (.lst (es.map V.ref)) ∧ Eds K H es (edsTo cs chs (chs.length + 1)) ∧ H c = some (.lst (ts.map V.ref)) ∧ Chs K H ts chs ∧
  H b = some (.lst ((bornH cs chs).map V.int)) ∧ H d = some (.lst (dropOf (edsTo cs chs (chs.length + 1)) (bornH cs chs).length))) ∧ H0 b = none ∧ H0 d = none ∧ H0 e = none ∧ H0 c = none ∧ ∀ x ∈ es, H0 x = none
theorem HistNN.n {K : PySem.W.Frag} {H0 H : Hp} {h : Addr} {cs : List Col} {chs : List Ch} (q : HistNN K H0 H h cs chs) : HistN K H0 H h cs chs := by
  obtain ⟨dx, e, c, b, d, es, ts, q, nb, nd, _⟩ := q
  exact ⟨dx, e, c, b, d, es, ts, q, nb, nd⟩
/-- a list that was there at H0 is written: the History stays -/
theorem HistNN.mut {K : PySem.W.Frag} {H0 H : Hp} {h f : Addr} {cs : List Col} {chs : List Ch} {o o' : HO} {xs : List V} (q : HistNN K H0 H h cs chs) (f0 : H0 f = some o) (hf : H f = some (.lst xs)) : HistNN K H0 (upd H f o') h cs chs := by
  obtain ⟨dx, e, c, b, d, es, ts, ⟨h1, h2, h3, h4, h5, h6, h7⟩, nb, nd, ne, nc, nes⟩ := q
  have old : ∀ {a : Addr}, H0 a = none → a ≠ f := fun {a} n z => by rw [z, f0] at n; cases n
  refine ⟨dx, e, c, b, d, es, ts, ⟨by rw [upd_ne (fun z => by rw [z, hf] at h1; cases h1)]; exact h1, by rw [upd_ne (old ne)]; exact h2, h3.mut hf fun x hx => old (nes x hx), by rw [upd_ne (old nc)]; exact h4, ?_, by rw [upd_ne (old nb)]; exact h6, by rw [upd_ne (old nd)]; exact h7⟩, nb, nd, ne, nc, nes⟩
  clear h1 h2 h3 h4 h6 h7 nb nd ne nc nes
  induction h5 with
  | nil => exact .nil
  | cons q t ih =>
    refine .cons ?_ ih
    rcases q with (q | ⟨ob, q⟩) | q
    · exact .inl (.inl (by rw [upd_ne (fun z => by rw [z, hf] at q; cases q)]; exact q))
    · exact .inl (.inr ⟨ob, by rw [upd_ne (fun z => by rw [z, hf] at q; cases q)]; exact q⟩)
    · exact .inr q
theorem HistN.at_ {K : PySem.W.Frag} {H0 H : Hp} {h : Addr} {cs : List Col} {chs : List Ch} (q : HistN K H0 H h cs chs) : HistAt K H h cs chs := by
  obtain ⟨dx, e, c, b, d, es, ts, q, _⟩ := q
  exact ⟨dx, e, c, b, d, es, ts, q⟩
/-- what may be a History: columns numbered by places, changes that can be done -/
structure HistOk (cs : List Col) (chs : List Ch) : Prop where
  pl : Placed cs
  g : Good cs cs.length
  f : Fits cs chs
  few : chs.length ≤ 40
theorem HistOk.born {cs : List Col} {chs : List Ch} (o : HistOk cs chs) : ((bornH cs chs).length : Int) = (atC cs chs).2 := by
  have := o.f.born o.pl o.g chs.length (Nat.le_refl _)
  rw [List.take_length] at this
  unfold bornH bornOf
  rw [edsTo_len]
  exact this
theorem HistOk.nums {cs : List Col} {chs : List Ch} (o : HistOk cs chs) : ∀ cs' ∈ edsTo cs chs (chs.length + 1), ∀ c ∈ cs', 0 ≤ c.num ∧ c.num < (bornH cs chs).length := by
  intro cs' hc' c hc
  obtain ⟨i, hi, rfl⟩ := List.mem_map.mp hc'
  have hi' : i ≤ chs.length := by have := List.mem_range.mp hi; omega
  have gd := o.f.good o.g i hi'
  have := (gd.ok c hc).2
  have e := grows (cs := cs) (chs := chs) hi'
  rw [List.take_length] at e
  rw [o.born]
  exact ⟨(gd.ok c hc).1.nu, by omega⟩
theorem HistOk.few6 {cs : List Col} {chs : List Ch} (o : HistOk cs chs) : ∀ cs' ∈ edsTo cs chs (chs.length + 1), cs'.length ≤ 1000 := by
  intro cs' hc'
  obtain ⟨i, hi, rfl⟩ := List.mem_map.mp hc'
  have hi' : i ≤ chs.length := by have := List.mem_range.mp hi; omega
  have := (o.f.good o.g i hi').six
  omega
theorem placed_numb (cs : List Col) : Placed (numb cs) := by
  intro i c h
  unfold numb at h
  rw [List.getElem?_mapIdx, Option.map_eq_some_iff] at h
  obtain ⟨c', _, e⟩ := h
  rw [← e]
def sp_Hist_init (K : PySem.W.Frag) : Sp := fun vs H Q _ => ∃ (h dx l t : Addr) (as ts : List Addr) (cs : List Col) (chs : List Ch), vs = [.ref h, .ref l, .ref t] ∧ H h = some (.ins (He.ga K "History") dx []) ∧ H l = some (.lst (as.map V.ref)) ∧ Cols K H as cs ∧ H t = some (.lst (ts.map V.ref)) ∧ Chs K H ts chs ∧
  (∀ c ∈ cs, ColOk c) ∧ HistOk (numb cs) chs ∧ ∀ (H' : Hp), HistN K H H' h (numb cs) chs → (∀ (b : Addr) (o : HO), b ≠ h → H b = some o → H' b = some o) → Q .non H'
def sp_Hist_initB (K : PySem.W.Frag) : Sp := fun vs H Q _ => ∃ (h dx l t : Addr) (as ts : List Addr) (cs : List Col) (chs : List Ch) (bb : Bool), vs = [.ref h, .ref l, .ref t] ∧ H h = some (.ins (He.ga K "History") dx []) ∧ H l = some (.lst (as.map V.ref)) ∧ Cols K H as cs ∧ SqB K bb H t (ts.map V.ref) ∧ Chs K H ts chs ∧
  (∀ c ∈ cs, ColOk c) ∧ HistOk (numb cs) chs ∧ ∀ (H' : Hp), HistN K H H' h (numb cs) chs → (∀ (b : Addr) (o : HO), b ≠ h → H b = some o → H' b = some o) → Q .non H'
def sp_Hist_initN (K : PySem.W.Frag) : Sp := fun vs H Q _ => ∃ (h dx l t : Addr) (as ts : List Addr) (cs : List Col) (chs : List Ch) (bb : Bool), vs = [.ref h, .ref l, .ref t] ∧ H h = some (.ins (He.ga K "History") dx []) ∧ H l = some (.lst (as.map V.ref)) ∧ Cols K H as cs ∧ SqB K bb H t (ts.map V.ref) ∧ Chs K H ts chs ∧
  (∀ c ∈ cs, ColOk c) ∧ HistOk (numb cs) chs ∧ ∀ (H' : Hp), HistNN K H H' h (numb cs) chs → (∀ (b : Addr) (o : HO), b ≠ h → H b = some o → H' b = some o) → Q .non H'
theorem numb_names (cs : List Col) : (numb cs).map (·.name) = cs.map (·.name) := by
  unfold numb
  refine List.ext_getElem? fun i => ?_
  rw [List.getElem?_map, List.getElem?_mapIdx, List.getElem?_map]
  cases cs[i]? <;> rfl
theorem numb_len (cs : List Col) : (numb cs).length = cs.length := by unfold numb; rw [List.length_mapIdx]
/-- all but what stands at h is as it was -/
def Up (h : Addr) (H H' : Hp) : Prop := ∀ b o, b ≠ h → H b = some o → H' b = some o
theorem Cols.up {K : PySem.W.Frag} {H H' : Hp} {h C dx : Addr} {fs : List (Str × V)} (u : Up h H H') (hh : H h = some (.ins C dx fs)) (nf : fs.lookup ("name" : Str) = none) : ∀ {as : List Addr} {cs : List Col}, Cols K H as cs → Cols K H' as cs
  | _, _, .nil => .nil
  | _, _, .cons (a := a) (c := c) q t => .cons (by
      obtain ⟨dy, q⟩ := q
      refine ⟨dy, u _ _ (fun z => ?_) q⟩
      rw [z, hh] at q
      have e := (HO.ins.inj (Option.some.inj q)).2.2
      rw [e, colFs_name] at nf
      cases nf) (t.up u hh nf)
theorem Eds.up {K : PySem.W.Frag} {H H' : Hp} {h C dx : Addr} {fs : List (Str × V)} (u : Up h H H') (hh : H h = some (.ins C dx fs)) (nf : fs.lookup ("name" : Str) = none) : ∀ {es : List Addr} {eds : List (List Col)}, Eds K H es eds → Eds K H' es eds
  | _, _, .nil => .nil
  | _, _, .cons as q c t => .cons as (u _ _ (fun z => by rw [z, hh] at q; cases q) q) (c.up u hh nf) (t.up u hh nf)
theorem Chs.up {K : PySem.W.Frag} {H H' : Hp} {h C dx : Addr} {fs : List (Str × V)} (u : Up h H H') (hh : H h = some (.ins C dx fs)) : ∀ {as : List Addr} {cs : List Ch}, Chs K H as cs → Chs K H' as cs
  | _, _, .nil => .nil
  | _, _, .cons q t => .cons (by
      rcases q with (q | ⟨o, q⟩) | q
      · exact .inl (.inl (u _ _ (fun z => by rw [z, hh] at q; cases q) q))
      · exact .inl (.inr ⟨o, u _ _ (fun z => by rw [z, hh] at q; cases q) q⟩)
      · exact .inr q) (t.up u hh)
theorem lk_e2 {e c : Addr} : ([("_editions", .ref e), ("_changes", .ref c)] : List (Str × V)).lookup ("_editions" : Str) = some (.ref e) := by simp [List.lookup]
theorem lk_e3 {e c b : Addr} : ([("_editions", .ref e), ("_changes", .ref c), ("_births", .ref b)] : List (Str × V)).lookup ("_editions" : Str) = some (.ref e) := by simp [List.lookup]
theorem lk_b3 {e c b : Addr} : ([("_editions", .ref e), ("_changes", .ref c), ("_births", .ref b)] : List (Str × V)).lookup ("_births" : Str) = some (.ref b) := by
  have h1 : (("_births" : Str) == "_editions") = false := by decide +kernel
  have h2 : (("_births" : Str) == "_changes") = false := by decide +kernel
  simp [List.lookup, h1, h2]
theorem ok_Hist_initN (T : Tx K mg) : ∃ fd, FnOk P w K mg base CX0 11 (He.ma K (He.ga K "History") "__init__") fd ["self", "columns", "changes"] (sp_Hist_initN K) ∧
    FunD K "__init__" "History.__init__" (defArgs s_History___init__) (defBody s_History___init__) (defScope s_History___init__) (d_History___init__.dvs K) (d_History___init__.kws K) (He.ma K (He.ga K "History") "__init__") fd := by
  have C1 := (ok_numbered_columns (P := P) (w := w) (base := base) T).up (show 7 ≤ 10 by decide)
  have C2 := (ok_columns_of_editionsN (P := P) (w := w) (base := base) T).up (show 9 ≤ 10 by decide)
  have C3 := (ok_births (P := P) (w := w) (base := base) T).up (show 1 ≤ 10 by decide)
  have C4 := (ok_drops (P := P) (w := w) (base := base) T).up (show 3 ≤ 10 by decide)
  obtain ⟨fd, F⟩ := fd_History___init__ T
  refine ⟨fd, F.ok (CX := CX0) sc_History___init__ (fun vs H Q E h => ?_) (fun cdv A outer s H vs Q E hr h => ?_), F⟩
  · obtain ⟨h, dx, l, t, as, ts, cs, chs, bb, rfl, _⟩ := h
    rfl
  suffices hh : ∃ t, PSs (cxOf CX0 P w K mg base ["self", "columns", "changes"] "History.__init__" (defScope s_History___init__) (He.ma K (He.ga K "History") "__init__") cdv A outer s H E).nox (defBody s_History___init__) t ∧
      t { nx := fun _ H' => Q .non H', rt := Q } (start ["self", "columns", "changes"] vs) H by
    obtain ⟨t, h1, h2⟩ := hh
    exact ⟨t, h1.nox, h2⟩
  obtain ⟨h, dx, l, t, as, ts, cs, chs, bb, rfl, hh, hl, hc, ht, hch, hok, ho, k⟩ := h
  have cl := cl_History T
  refine ⟨_, pss_cons (ps_fld (pv 0) (pcall C2 hr (pa_cons (pcall C1 hr (pa_cons (pv 1) pa_nil)) (pa_cons (pv 2) pa_nil))) rfl)
    (pss_cons (ps_fld (pv 0) (pe_callTy call_list_of (by rfl) (fr_list T) (by decide +kernel) (pa_cons (pv 2) pa_nil)) rfl)
    (pss_cons (ps_fld (pv 0) (pcall C3 hr (pa_cons (pe_fld (pv 0) rfl) pa_nil)) rfl)
    (pss_one (ps_fld (pv 0) (pcall C4 hr (pa_cons (pe_fld (pv 0) rfl) (pa_cons (pe_callB call_len_seq (by rfl) (fr_len T) PySem.boot_len (pa_cons (pe_fld (pv 0) rfl) pa_nil)) pa_nil))) rfl)))), ?_⟩
  have one : 1 ≤ cs.length := by have := ho.g.one; rw [numb_len] at this; exact this
  have six : cs.length ≤ 6 := by have := ho.g.six; rw [numb_len] at this; exact this
  have nms : (cs.map (·.name)).Nodup := by have := ho.g.names; rw [numb_names] at this; exact this
  refine ⟨_, rfl, l, as, cs, rfl, hl, hc, one, six, nms, hok, fun l1 as1 H1 n1 s1 h1 c1 => ⟨_, rfl, l1, t, as1, ts, numb cs, chs, bb, rfl, h1, c1, ht.keep s1, hch.keep s1, ho.g, ho.f, ho.few, fun e es H2 n2 s2 he hE new => ?_⟩⟩
  have s02 := s1.trans s2
  have hh2 := s02 _ _ hh
  have lk : ([] : List (Str × V)).lookup ("name" : Str) = none := rfl
  have eh : e ≠ h := fun z => by rw [z, hh2] at he; cases he
  refine ⟨_, rfl, h, _, dx, _, rfl, hh2, cl, na_History__editions T, (by show 0 < 1000; decide), ?_⟩
  have u3 : Up h H2 (upd H2 h (.ins (He.ga K "History") dx [("_editions", .ref e)])) := fun b o nb q => by rw [upd_ne nb]; exact q
  have hh3 : upd H2 h (.ins (He.ga K "History") dx [("_editions", .ref e)]) h = some (.ins (He.ga K "History") dx [("_editions", .ref e)]) := upd_same
  show tSeq _ _ _ _ (upd H2 h (.ins (He.ga K "History") dx [("_editions", .ref e)]))
  generalize upd H2 h (.ins (He.ga K "History") dx [("_editions", .ref e)]) = H3 at u3 hh3 ⊢
  have ht3 : SqB K bb H3 t (ts.map V.ref) := (ht.keep s02).up u3 hh2
  refine ⟨_, rfl, t, _, rfl, ht3.or, fun c nc => ?_⟩
  have hc4 : upd H3 c (.lst (ts.map V.ref)) c = some (.lst (ts.map V.ref)) := upd_same
  have u4 : Up h H2 (upd H3 c (.lst (ts.map V.ref))) := fun b o nb q => same_new nc _ _ (u3 b o nb q)
  have hh4 : upd H3 c (.lst (ts.map V.ref)) h = some (.ins (He.ga K "History") dx [("_editions", .ref e)]) := same_new nc _ _ hh3
  have ch : c ≠ h := fun z => by rw [z, hh3] at nc; cases nc
  generalize upd H3 c (.lst (ts.map V.ref)) = H4 at u4 hh4 hc4 ⊢
  refine ⟨_, rfl, h, _, dx, _, rfl, hh4, cl, na_History__changes T, (by show 1 < 1000; decide), ?_⟩
  rw [show putF ("_changes" : Str) (.ref c) [("_editions", .ref e)] = ([("_editions", .ref e), ("_changes", .ref c)] : List (Str × V)) from hist_put2 e c]
  have u5 : Up h H2 (upd H4 h (.ins (He.ga K "History") dx [("_editions", .ref e), ("_changes", .ref c)])) := fun b o nb q => by rw [upd_ne nb]; exact u4 b o nb q
  have hh5 : upd H4 h (.ins (He.ga K "History") dx [("_editions", .ref e), ("_changes", .ref c)]) h = some (.ins (He.ga K "History") dx [("_editions", .ref e), ("_changes", .ref c)]) := upd_same
  have hc5 : upd H4 h (.ins (He.ga K "History") dx [("_editions", .ref e), ("_changes", .ref c)]) c = some (.lst (ts.map V.ref)) := by rw [upd_ne ch]; exact hc4
  generalize upd H4 h (.ins (He.ga K "History") dx [("_editions", .ref e), ("_changes", .ref c)]) = H5 at u5 hh5 hc5 ⊢
  have hE5 : Eds K H5 es (edsTo (numb cs) chs (chs.length + 1)) := hE.up u5 hh2 lk
  have he5 := u5 _ _ eh he
  refine ⟨_, rfl, h, _, dx, _, _, rfl, hh5, cl, na_History__editions T, lk_e2, e, es, _, rfl, he5, hE5, by rw [edsTo_len]; have := ho.few; omega, ho.few6, fun b H6 n6 s6 hb6 => ?_⟩
  have u6 : Up h H2 H6 := fun b o nb q => s6 _ _ (u5 b o nb q)
  have hh6 := s6 _ _ hh5
  have hc6 := s6 _ _ hc5
  have bh : b ≠ h := fun z => by rw [z, hh5] at n6; cases n6
  refine ⟨_, rfl, h, _, dx, _, rfl, hh6, cl, na_History__births T, (by show 2 < 1000; decide), ?_⟩
  rw [show putF ("_births" : Str) (.ref b) [("_editions", .ref e), ("_changes", .ref c)] = ([("_editions", .ref e), ("_changes", .ref c), ("_births", .ref b)] : List (Str × V)) by rw [← hist_put2 e c]; exact hist_put3 e c b]
  have u7 : Up h H2 (upd H6 h (.ins (He.ga K "History") dx [("_editions", .ref e), ("_changes", .ref c), ("_births", .ref b)])) := fun b o nb q => by rw [upd_ne nb]; exact u6 b o nb q
  have hh7 : upd H6 h (.ins (He.ga K "History") dx [("_editions", .ref e), ("_changes", .ref c), ("_births", .ref b)]) h = some (.ins (He.ga K "History") dx [("_editions", .ref e), ("_changes", .ref c), ("_births", .ref b)]) := upd_same
  have hc7 : upd H6 h (.ins (He.ga K "History") dx [("_editions", .ref e), ("_changes", .ref c), ("_births", .ref b)]) c = some (.lst (ts.map V.ref)) := by rw [upd_ne ch]; exact hc6
  have hb7 : upd H6 h (.ins (He.ga K "History") dx [("_editions", .ref e), ("_changes", .ref c), ("_births", .ref b)]) b = some (.lst ((bornH (numb cs) chs).map V.int)) := by rw [upd_ne bh]; exact hb6
  generalize upd H6 h (.ins (He.ga K "History") dx [("_editions", .ref e), ("_changes", .ref c), ("_births", .ref b)]) = H7 at u7 hh7 hc7 hb7 ⊢
  have hE7 : Eds K H7 es (edsTo (numb cs) chs (chs.length + 1)) := hE.up u7 hh2 lk
  have he7 := u7 _ _ eh he
  have bl : (bornH (numb cs) chs).length ≤ 100000 := by
    have h1 := bornTo_len ho.few6 (edsTo (numb cs) chs (chs.length + 1)).length
    have h2 : (edsTo (numb cs) chs (chs.length + 1)).length ≤ 41 := by rw [edsTo_len]; have := ho.few; omega
    show (bornTo (edsTo (numb cs) chs (chs.length + 1)) _).length ≤ _
    omega
  refine ⟨_, rfl, h, _, dx, _, _, rfl, hh7, cl, na_History__editions T, lk_e3, _, rfl, h, _, dx, _, _, rfl, hh7, cl, na_History__births T, lk_b3, b, _, rfl, .inl (sqL_of hb7), e, es, _, (bornH (numb cs) chs).length, by rw [List.length_map]; rfl, he7, hE7, by rw [edsTo_len]; omega, by rw [edsTo_len]; have := ho.few; omega, bl, ho.nums, fun d H8 n8 s8 hd8 => ?_⟩
  have u8 : Up h H2 H8 := fun b o nb q => s8 _ _ (u7 b o nb q)
  have hh8 := s8 _ _ hh7
  have hc8 := s8 _ _ hc7
  have hb8 := s8 _ _ hb7
  have dh : d ≠ h := fun z => by rw [z, hh7] at n8; cases n8
  refine ⟨_, rfl, h, _, dx, _, rfl, hh8, cl, na_History__drops T, (by show 3 < 1000; decide), ?_⟩
  rw [show putF ("_drops" : Str) (.ref d) [("_editions", .ref e), ("_changes", .ref c), ("_births", .ref b)] = histFs e c b d by rw [← hist_put3 e c b]; exact hist_put4 e c b d]
  have u9 : Up h H2 (upd H8 h (.ins (He.ga K "History") dx (histFs e c b d))) := fun b o nb q => by rw [upd_ne nb]; exact u8 b o nb q
  have fb : H b = none := by
    cases hb0 : H b with
    | none => rfl
    | some o =>
      rw [u5 _ _ bh (s02 _ _ hb0)] at n6
      cases n6
  have fd0 : H d = none := by
    cases hd0 : H d with
    | none => rfl
    | some o =>
      rw [u7 _ _ dh (s02 _ _ hd0)] at n8
      cases n8
  have fc : H c = none := by
    cases hc0 : H c with
    | none => rfl
    | some o =>
      rw [u3 _ _ ch (s02 _ _ hc0)] at nc
      cases nc
  refine k _ ⟨dx, e, c, b, d, es, ts, ⟨upd_same, u9 _ _ eh he, hE.up u9 hh2 lk, by rw [upd_ne ch]; exact hc8, (hch.keep s02).up u9 hh2, by rw [upd_ne bh]; exact hb8, by rw [upd_ne dh]; exact hd8⟩, fb, fd0, s1.free n2, fc, fun x hx => (new x hx).elim (fun z => by rw [z]; exact n1) fun z => s1.free z⟩ fun b' o nb' q => u9 _ _ nb' (s02 _ _ q)
theorem ok_Hist_initB (T : Tx K mg) : ∃ fd, FnOk P w K mg base CX0 11 (He.ma K (He.ga K "History") "__init__") fd ["self", "columns", "changes"] (sp_Hist_initB K) ∧
    FunD K "__init__" "History.__init__" (defArgs s_History___init__) (defBody s_History___init__) (defScope s_History___init__) (d_History___init__.dvs K) (d_History___init__.kws K) (He.ma K (He.ga K "History") "__init__") fd := by
  obtain ⟨fd, G, F⟩ := ok_Hist_initN (P := P) (w := w) (base := base) T
  refine ⟨fd, G.imp fun vs H Q E h => ?_, F⟩
  obtain ⟨h, dx, l, t, as, ts, cs, chs, bb, e, hh, hl, hc, ht, hch, hok, ho, k⟩ := h
  exact ⟨h, dx, l, t, as, ts, cs, chs, bb, e, hh, hl, hc, ht, hch, hok, ho, fun H' q => k H' q.n⟩
theorem ok_Hist_init (T : Tx K mg) : ∃ fd, FnOk P w K mg base CX0 11 (He.ma K (He.ga K "History") "__init__") fd ["self", "columns", "changes"] (sp_Hist_init K) ∧
    FunD K "__init__" "History.__init__" (defArgs s_History___init__) (defBody s_History___init__) (defScope s_History___init__) (d_History___init__.dvs K) (d_History___init__.kws K) (He.ma K (He.ga K "History") "__init__") fd := by
  obtain ⟨fd, G, F⟩ := ok_Hist_initB (P := P) (w := w) (base := base) T
  refine ⟨fd, G.imp fun vs H Q E h => ?_, F⟩
  obtain ⟨h, dx, l, t, as, ts, cs, chs, e, hh, hl, hc, ht, hch, hok, ho, k⟩ := h
  exact ⟨h, dx, l, t, as, ts, cs, chs, false, e, hh, hl, hc, sqL_of ht, hch, hok, ho, k⟩
/-! len(history) -/
theorem histNo {K : PySem.W.Frag} {H : Hp} {h : Addr} {cs : List Col} {chs : List Ch} (q : HistAt K H h cs chs) : ∃ dx fs, H h = some (.ins (He.ga K "History") dx fs) := by
  obtain ⟨dx, e, c, b, d, _, _, q, _⟩ := q
  exact ⟨dx, _, q⟩
def sp_Hist_len (K : PySem.W.Frag) : Sp := fun vs H Q _ => ∃ (h : Addr) (cs : List Col) (chs : List Ch), vs = [.ref h] ∧ HistAt K H h cs chs ∧ Q (.int (chs.length : Nat)) H
theorem ok_Hist_len (T : Tx K mg) : ∃ fd, FnOk P w K mg base CX0 1 (He.ma K (He.ga K "History") "__len__") fd ["self"] (sp_Hist_len K) ∧ Binds K fd ["self"] [] := by
  obtain ⟨fd, F⟩ := fd_History___len__ T
  refine ⟨fd, F.ok (CX := CX0) sc_History___len__ (fun vs H Q E h => ?_) (fun cdv A outer s H vs Q E hr h => ?_), F.bindsN fun _ _ _ _ _ _ us hl => match us, hl with | [_], _ => rfl⟩
  · obtain ⟨h, cs, chs, rfl, _⟩ := h
    rfl
  suffices hh : ∃ t, PSs (cxOf CX0 P w K mg base ["self"] "History.__len__" (defScope s_History___len__) (He.ma K (He.ga K "History") "__len__") cdv A outer s H E).nox (defBody s_History___len__) t ∧
      t { nx := fun _ H' => Q .non H', rt := Q } (start ["self"] vs) H by
    obtain ⟨t, h1, h2⟩ := hh
    exact ⟨t, h1.nox, h2⟩
  obtain ⟨h, cs, chs, rfl, ⟨dx, e, c, b, d, es, ts, hh, he, hE, hc, hC, hb, hd⟩, k⟩ := h
  refine ⟨_, pss_one (ps_ret (pe_callB call_len_seq (by rfl) (fr_len T) PySem.boot_len (pa_cons (pe_fld (pv 0) rfl) pa_nil))), ?_⟩
  refine ⟨_, rfl, h, _, dx, _, _, rfl, hh, cl_History T, na_History__changes T, histFs_changes, c, _, rfl, .inl (sqL_of hc), ?_⟩
  rw [List.length_map, hC.len]
  exact k
/-! is_edition -/
def isEd (n : Nat) : V → Bool
  | .int i => decide (0 ≤ i) && decide (i ≤ (n : Nat))
  | _ => false
def sp_is_edition (K : PySem.W.Frag) : Sp := fun vs H Q _ => ∃ (h : Addr) (cs : List Col) (chs : List Ch) (x : V) (t : String), vs = [.ref h, x] ∧ HistAt K H h cs chs ∧ chs.length ≤ 1000 ∧ TyX K H x (.type t) ∧ Q (.bl (isEd chs.length x)) H
theorem ok_is_edition (T : Tx K mg) : Callee P w K mg base CX0 3 "is_edition" ["history", "value"] [] (sp_is_edition K) := by
  have C1 := (ok_is_whole (P := P) (w := w) (base := base) T).up (show 1 ≤ 2 by decide)
  obtain ⟨fdL, FL, bL⟩ := ok_Hist_len (P := P) (w := w) (base := base) T
  refine mkCallee (fd_is_edition T) (mg_is_edition T) sc_is_edition (fun _ _ _ _ _ _ us hl => match us, hl with | [_, _], _ => rfl) (fun vs H Q E h => ?_) (fun cdv A outer s H vs Q E hr h => ?_)
  · obtain ⟨h, cs, chs, x, t, rfl, _⟩ := h
    rfl
  · obtain ⟨h, cs, chs, x, t, rfl, hh, few, ty, k⟩ := h
    obtain ⟨dx, fs, hi⟩ := histNo hh
    refine ⟨_, pss_one (ps_ret (pe_and (pcall C1 hr (pa_cons (pv 1) pa_nil)) (pe_one (pe_chain op_le op_le pe_int (pv 1) (pe_callB (call_lenOwn FL (me_History___len__ T) hr bL pass0) (by rfl) (fr_len T) PySem.boot_len (pa_cons (pv 0) pa_nil)))))), ?_⟩
    refine ⟨_, rfl, x, t, rfl, ty, _, rfl, ?_⟩
    cases x with
    | int i =>
      refine iteT ⟨_, rfl, _, _, rfl, rfl, _, rfl, ?_⟩
      have e : isEd chs.length (.int i) = (decide (0 ≤ i) && decide (i ≤ (chs.length : Nat))) := rfl
      rw [e] at k
      cases h1 : decide (0 ≤ i) with
      | false =>
        rw [h1] at k
        exact k
      | true =>
        rw [h1] at k
        exact ⟨_, rfl, h, dx, fs, rfl, hi, h, cs, chs, rfl, hh, _, rfl, ⟨by omega, by omega⟩, _, _, rfl, rfl, k⟩
    | _ => exact iteF k
/-! edition_of, of what is an edition, or None -/
def edOf (n : Nat) : V → Int
  | .int i => i
  | _ => n
def sp_edition_of (K : PySem.W.Frag) : Sp := fun vs H Q _ => ∃ (h : Addr) (cs : List Col) (chs : List Ch) (x : V), vs = [.ref h, x] ∧ HistAt K H h cs chs ∧ chs.length ≤ 1000 ∧ (x = .non ∨ isEd chs.length x = true) ∧ Q (.int (edOf chs.length x)) H
theorem ok_edition_of (T : Tx K mg) : Callee P w K mg base CX0 4 "edition_of" ["history", "edition"] [] (sp_edition_of K) := by
  have C1 := ok_is_edition (P := P) (w := w) (base := base) T
  obtain ⟨fdL, FL, bL⟩ := ok_Hist_len (P := P) (w := w) (base := base) T
  refine mkCallee (fd_edition_of T) (mg_edition_of T) sc_edition_of (fun _ _ _ _ _ _ us hl => match us, hl with | [_, _], _ => rfl) (fun vs H Q E h => ?_) (fun cdv A outer s H vs Q E hr h => ?_)
  · obtain ⟨h, cs, chs, x, rfl, _⟩ := h
    rfl
  · obtain ⟨h, cs, chs, x, rfl, hh, few, hx, k⟩ := h
    obtain ⟨dx, fs, hi⟩ := histNo hh
    refine ⟨_, pss_cons (ps_if (pt_cmpR op_isN (pv 1) pe_non (nomark _)) (pss_one (ps_ret (pe_callB (call_lenOwn FL (me_History___len__ T) (hr.mono (by decide)) bL pass0) (by rfl) (fr_len T) PySem.boot_len (pa_cons (pv 0) pa_nil)))) pss_nil)
      (pss_cons (ps_if (pt_not (pt_val (pcall C1 hr (pa_cons (pv 0) (pa_cons (pv 1) pa_nil))))) (pss_one ps_never) pss_nil) (pss_one (ps_ret (pv 1)))), ?_⟩
    rcases hx with rfl | hx
    · exact ⟨_, rfl, rfl, _, rfl, iteDT rfl ⟨_, rfl, h, dx, fs, rfl, hi, h, cs, chs, rfl, hh, _, rfl, ⟨by omega, by omega⟩, k⟩⟩
    · cases x with
      | int i =>
        refine ⟨_, rfl, rfl, _, rfl, iteD (fun z => by cases z) ⟨_, rfl, _, rfl, h, cs, chs, .int i, _, rfl, hh, few, .base (.int i), _, rfl, ?_⟩⟩
        rw [hx]
        exact iteF ⟨_, rfl, k⟩
      | _ => cases hx
/-! xs == ys of lists of the same length whose items are equal or not, own == among them -/
section
open PySem.SeqAt
open PySem.AutoSeq1 (wpAny_loadPart')
open PySem.MeetsSeq PySem.MeetsSeq2 PySem.MeetsSeq3 PySem.SeqRoads2
section
variable {prog : Program} {w : World} {A : Around} {R : Result → Shared → Prop}
/-- what each turn of the walk over two lists finds and keeps -/
def TurnsB (prog : Program) (w : World) (A : Around) (E : Value → Shared → Prop) (l b : Addr) (N : Nat) (e : Nat → Bool) (J : Shared → Prop) : Prop := ∀ s, J s → ∃ us vs n n2, s.heap.get? l = some { cls := .type "list", dict := none, data := .seq us n, slots := #[] } ∧ s.heap.get? b = some { cls := .type "list", dict := none, data := .seq vs n2, slots := #[] } ∧ us.size = N ∧ vs.size = N ∧
  ∀ i (h1 : i < us.size) (h2 : i < vs.size), wpAny (model prog w) A.in1 (eqBool us[i] vs[i]) (fun r s' => r = e i ∧ J s') E s
theorem eb_loop (l b : Addr) (N : Nat) (e : Nat → Bool) (J : Shared → Prop) (turns : TurnsB prog w A (fun x s' => R (.error x) s') l b N e J) (last : ∀ s, J s → R (.ok (.ret (.bool ((List.range N).all e)))) s) :
    ∀ (m i : Nat), N - i = m → i ≤ N → (∀ k, k < i → e k = true) → ∀ s, J s → wpAny (model prog w) A.in1 (Builtin.«list.__eq__.loop» ⟨[.ref l, .ref b, rawInt i, rawInt 2], []⟩) (GQ.FinOf prog w A R) (fun x s' => R (.error x) s') s
  | 0, i, hm, hi, pre, s, hJ => by
    obtain ⟨us, vs, n, n2, hu, hv, zu, zv, _⟩ := turns s hJ
    have ei : i = N := by omega
    have al : (List.range N).all e = true := List.all_eq_true.mpr fun k hk => pre k (by have := List.mem_range.mp hk; omega)
    have done := last s hJ
    rw [al] at done
    obtain ⟨hp, g, d, tk, os⟩ := s
    wp_walk using wpAny_loadPart' hu, wpAny_loadPart' hv
    rw [show us[((i : Nat) : Int).toNat]? = none by simp <;> omega, show vs[((i : Nat) : Int).toNat]? = none by simp <;> omega]
    wp_walk using wpAny_loadPart' hu, wpAny_loadPart' hv
    show R (.ok (.ret (.bool (us.size == vs.size)))) _
    rw [zu, zv]
    simpa using done
  | m + 1, i, hm, hi, pre, s, hJ => by
    obtain ⟨us, vs, n, n2, hu, hv, zu, zv, turn⟩ := turns s hJ
    have lu : i < us.size := by omega
    have lv : i < vs.size := by omega
    have one := turn i lu lv
    obtain ⟨hp, g, d, tk, os⟩ := s
    wp_walk using wpAny_loadPart' hu, wpAny_loadPart' hv
    rw [show us[((i : Nat) : Int).toNat]? = some us[i] by simp [lu], show vs[((i : Nat) : Int).toNat]? = some vs[i] by simp [lv]]
    refine wpAny_bind (wpAny_mono one (fun r s2 q => ?_) fun _ _ x => x)
    obtain ⟨er, hJ2⟩ := q
    subst er
    cases he : e i with
    | true =>
      have rest := eb_loop l b N e J turns last m (i + 1) (by omega) (by omega) (fun k hk => by
        by_cases q : k = i
        · rw [q]
          exact he
        · exact pre k (by omega)) s2 hJ2
      obtain ⟨hp2, g2, d2, tk2, os2⟩ := s2
      wp_walk
      rw [show ((i : Int) + 1) = ((i + 1 : Nat) : Int) by omega]
      exact ⟨plainId_quiet plain_eq_loop _, codeAny_builtin entry_eq_loop (by
        rw [Around.under_plainId plain_eq_loop _]
        exact rest)⟩
    | false =>
      obtain ⟨us2, vs2, n3, n4, hu2, hv2, zu2, zv2, _⟩ := turns s2 hJ2
      have al : (List.range N).all e = false := by
        cases q : (List.range N).all e with
        | false => rfl
        | true =>
          have := List.all_eq_true.mp q i (List.mem_range.mpr (by omega))
          rw [he] at this
          cases this
      have done := last s2 hJ2
      rw [al] at done
      obtain ⟨hp2, g2, d2, tk2, os2⟩ := s2
      wp_walk using wpAny_loadPart' hu2, wpAny_loadPart' hv2
      rw [show us2[((i : Nat) : Int).toNat]? = some (us2[i]'(by omega)) by simp <;> omega, show vs2[((i : Nat) : Int).toNat]? = some (vs2[i]'(by omega)) by simp <;> omega]
      wp_walk
      simpa using done
theorem eb_list (l b : Addr) (N : Nat) (e : Nat → Bool) (J : Shared → Prop) (turns : TurnsB prog w A (fun x s' => R (.error x) s') l b N e J) (last : ∀ s, J s → R (.ok (.ret (.bool ((List.range N).all e)))) s) {s : Shared} (hJ : J s) :
    wpAny (model prog w) A.in1 (Builtin.«list.__eq__» ⟨[.ref l, .ref b], []⟩) (GQ.FinOf prog w A R) (fun x s' => R (.error x) s') s := by
  obtain ⟨us, vs, n, n2, hu, hv, zu, zv, _⟩ := turns s hJ
  have rest := eb_loop (A := A) (R := R) l b N e J turns last N 0 rfl (Nat.zero_le _) (fun k h => absurd h (Nat.not_lt_zero k)) s hJ
  obtain ⟨hp, g, d, tk, os⟩ := s
  have both := AutoSeq1.sub_list_list
  have same : ¬ (us.size != vs.size) = true := by simp [zu, zv]
  wp_walk using wpAny_loadPart' hu, wpAny_loadPart' hv
  exact ⟨plainId_quiet plain_eq_loop _, codeAny_builtin entry_eq_loop (by
    rw [Around.under_plainId plain_eq_loop _]
    exact rest)⟩
/-- of another length -/
theorem eb_apart (l b : Addr) {us vs : Array Value} {n n2 : Nat} {s : Shared} (hu : s.heap.get? l = some { cls := .type "list", dict := none, data := .seq us n, slots := #[] }) (hv : s.heap.get? b = some { cls := .type "list", dict := none, data := .seq vs n2, slots := #[] }) (ne : us.size ≠ vs.size) (last : ∀ t, R (.ok (.ret (.bool false))) { s with toks := t }) :
    wpAny (model prog w) A.in1 (Builtin.«list.__eq__» ⟨[.ref l, .ref b], []⟩) (GQ.FinOf prog w A R) (fun x s' => R (.error x) s') s := by
  obtain ⟨hp, g, d, tk, os⟩ := s
  have both := AutoSeq1.sub_list_list
  have other : (us.size != vs.size) = true := by simpa using ne
  wp_walk using wpAny_loadPart' hu, wpAny_loadPart' hv
  exact last _
end
theorem eb_rc {prog : Program} {w : World} {A : Around} {E : Value → Shared → Prop} {s : Shared} {l b : Addr} {N : Nat} {e : Nat → Bool} {Q : Value → Shared → Prop} (hu : A.units < cLine) (J : Shared → Prop) (turns : TurnsB prog w A E l b N e J) (last : ∀ s, J s → Q (.bool ((List.range N).all e)) s) (hJ : J s) :
    wpAny (model prog w) A (richCompare .Eq (.ref l) (.ref b)) Q E s := by
  obtain ⟨us, vs, n, n2, h1, h2, _⟩ := turns s hJ
  refine wpAny_richCompare_same_room (op := .Eq) ⟨_, h1, rfl⟩ ⟨_, h2, rfl⟩ F.slot_list_eq (GQ.call_here F.slot_list_eq ⟨_, h1, rfl⟩ F.entry_list_eq (F.args_list_eq_2 _ _) ?_) hu
  exact eb_list (R := wants (fun v s' => v ≠ .notImplemented ∧ Q v s') E) l b N e J turns (fun s' q => ⟨(fun x => nomatch x), last s' q⟩) hJ
theorem eb_rcN {prog : Program} {w : World} {A : Around} {E : Value → Shared → Prop} {s : Shared} {l b : Addr} {Q : Value → Shared → Prop} (room : A.units < cLine) {us vs : Array Value} {n n2 : Nat} (hu : s.heap.get? l = some { cls := .type "list", dict := none, data := .seq us n, slots := #[] }) (hv : s.heap.get? b = some { cls := .type "list", dict := none, data := .seq vs n2, slots := #[] }) (ne : us.size ≠ vs.size) (last : ∀ t, Q (.bool false) { s with toks := t }) :
    wpAny (model prog w) A (richCompare .Eq (.ref l) (.ref b)) Q E s := by
  refine wpAny_richCompare_same_room (op := .Eq) ⟨_, hu, rfl⟩ ⟨_, hv, rfl⟩ F.slot_list_eq (GQ.call_here F.slot_list_eq ⟨_, hu, rfl⟩ F.entry_list_eq (F.args_list_eq_2 _ _) ?_) room
  exact eb_apart (R := wants (fun v s' => v ≠ .notImplemented ∧ Q v s') E) l b hu hv ne fun t => ⟨(fun x => nomatch x), last t⟩
end
/-- what two values are, compared -/
abbrev EqvB := V → V → Hp → Bool → Prop
def MonBB (D : EqvB) : Prop := ∀ x y H H' b, Ext H H' → D x y H b → D x y H' b
def EqBG (X : Cx) (n : Nat) (D : EqvB) : Prop := ∀ (A : Around) (pins : List (Addr × Obj)) (s : Shared) (σ : L2.St) (H : Hp) (x y : V) (u v : Value) (b : Bool), Sub X n A → Inv X pins σ H s → RelV x u → RelV y v → D x y H b →
  wpAny (model X.prog X.w) A (eqBool u v) (fun r s' => r = b ∧ ∃ H', Inv X pins σ H' s' ∧ Ext H H') X.xe s
def RcBG (X : Cx) (n : Nat) (D : EqvB) : Prop := ∀ (A : Around) (pins : List (Addr × Obj)) (s : Shared) (σ : L2.St) (H : Hp) (x y : V) (u v : Value) (b : Bool), Sub X n A → Inv X pins σ H s → RelV x u → RelV y v → D x y H b →
  wpAny (model X.prog X.w) A (richCompare .Eq u v) (fun r s' => r = .bool b ∧ ∃ H', Inv X pins σ H' s' ∧ Ext H H') X.xe s
def DListB (D : EqvB) : EqvB := fun x y H r => ∃ a b xs ys, x = .ref a ∧ y = .ref b ∧ H a = some (.lst xs) ∧ H b = some (.lst ys) ∧
  ((xs.length = ys.length ∧ ∃ e : Nat → Bool, (∀ (i : Nat) x y, xs[i]? = some x → ys[i]? = some y → D x y H (e i)) ∧ r = (List.range xs.length).all e) ∨ (xs.length ≠ ys.length ∧ r = false))
section
variable {X : Cx} {n : Nat} {D : EqvB}
theorem rcB_list (hD : MonBB D) (h : EqBG X n D) : RcBG X (n + 1) (DListB D) := by
  intro A pins s σ H x y u v r sb I rx ry d
  obtain ⟨a, b, xs, ys, rfl, rfl, ha, hb, d⟩ := d
  cases rx
  cases ry
  rcases d with ⟨len, e, he, rfl⟩ | ⟨len, rfl⟩
  · refine eb_rc (N := xs.length) (e := e) sb.room.units0 (fun s' => LoopI X pins σ H s') (fun s' q => ?_) (fun s' q => ⟨rfl, q⟩) ⟨H, I, Ext.rfl'⟩
    obtain ⟨H1, I1, e1⟩ := id q
    obtain ⟨z, its, k1, r1, q1⟩ := I1.hok a _ (e1 _ _ ha)
    obtain ⟨z2, its2, k2, r2, q2⟩ := I1.hok b _ (e1 _ _ hb)
    refine ⟨its.toArray, its2.toArray, k1, k2, q1, q2, by rw [List.size_toArray, ← r1.length], by rw [List.size_toArray, ← r2.length, ← len], fun i h1 h2 => ?_⟩
    have g1 : its[i]? = some its.toArray[i] := by
      have h1' : i < its.length := by simpa using h1
      rw [List.getElem?_eq_getElem h1'] <;> simp
    have g2 : its2[i]? = some its2.toArray[i] := by
      have h2' : i < its2.length := by simpa using h2
      rw [List.getElem?_eq_getElem h2'] <;> simp
    have m1 : i < xs.length := by rw [r1.length]; simpa using h1
    have m2 : i < ys.length := by rw [r2.length]; simpa using h2
    obtain ⟨u1, hu1, ru⟩ := r1.get (List.getElem?_eq_getElem m1)
    obtain ⟨v1, hv1, rv⟩ := r2.get (List.getElem?_eq_getElem m2)
    rw [g1] at hu1
    rw [g2] at hv1
    rw [Option.some.inj hu1, Option.some.inj hv1]
    refine wpAny_mono (h A.in1 pins s' σ H1 _ _ u1 v1 (e i) sb.in1 I1 ru rv (hD _ _ _ _ _ e1 (he i _ _ (List.getElem?_eq_getElem m1) (List.getElem?_eq_getElem m2)))) (fun t s2 w => ?_) fun _ _ z => z
    obtain ⟨er, H2, I2, e2⟩ := w
    exact ⟨er, H2, I2, e1.trans e2⟩
  · obtain ⟨z, its, k1, r1, q1⟩ := I.hok a _ ha
    obtain ⟨z2, its2, k2, r2, q2⟩ := I.hok b _ hb
    exact eb_rcN sb.room.units0 q1 q2 (by rw [List.size_toArray, List.size_toArray, ← r1.length, ← r2.length]; exact len) fun t => ⟨rfl, H, I.tok t, Ext.rfl'⟩
def DInsB (C : Addr) (R : Addr → Addr → Hp → Bool → Prop) : EqvB := fun x y H r => ∃ a b dx dy fs gs, x = .ref a ∧ y = .ref b ∧ H a = some (.ins C dx fs) ∧ H b = some (.ins C dy gs) ∧ R a b H r
theorem mon_insB {C : Addr} {R : Addr → Addr → Hp → Bool → Prop} (hR : ∀ a b H H' r, Ext H H' → R a b H r → R a b H' r) : MonBB (DInsB C R) := fun x y H H' r e d => by
  obtain ⟨a, b, dx, dy, fs, gs, hx, hy, h1, h2, q⟩ := d
  exact ⟨a, b, dx, dy, fs, gs, hx, hy, e _ _ h1, e _ _ h2, hR a b H H' r e q⟩
def spEqB (R : Addr → Addr → Hp → Bool → Prop) : Sp := fun vs H Q _ => ∃ a b r, vs = [.ref a, .ref b] ∧ R a b H r ∧ ∀ H', Ext H H' → Q (.bl r) H'
theorem rcB_ins {CX : CXT} {C f : Addr} {fd : FuncData} {ps : List Str} {R : Addr → Addr → Hp → Bool → Prop} {E : XK} (F : FnOk X.prog X.w X.K X.mg X.base CX n f fd ps (spEqB R))
    (own : PySem.W.findIn X.K (.ref C) "__eq__" = some (some (.ref f))) (isf : PySem.W.isFn X.K (.ref f) = true) (hb : Binds X.K fd ps []) (hx : Passes CX X E) : RcBG X n (DInsB C R) := by
  intro A pins s σ H x y u v r sb I rx ry d
  obtain ⟨a, b, dx, dy, fs, gs, rfl, rfl, ha, hb', hr⟩ := d
  cases rx
  cases ry
  obtain ⟨mA, J, _⟩ := ins_get I.hok ha
  obtain ⟨mB, J', _⟩ := ins_get I.hok hb'
  obtain ⟨od, J, _⟩ := J.look
  obtain ⟨od', J', _⟩ := J'.look
  obtain ⟨m, hF⟩ := I.fr
  refine PySem.W.cmp_K (op := .Eq) (tb := .ref C) sb.room.units0 hF I.ok.mod.kin J J'.type (by simp [PySem.W.notFirst]) own isf ?_
  have prom : spEqB R [.ref a, .ref b] H (fun z H' => z = .bl r ∧ Ext H H') E := ⟨a, b, r, rfl, hr, fun H' e => ⟨rfl, e⟩⟩
  have env : Env0 X.prog X.w X.K X.mg X.base A X.stack s H := by
    have e := I.env0
    exact ⟨by rw [sb.fr]; exact e.frames, e.mod, e.bs, e.bsz, e.funs, e.frf, e.hok, e.bare⟩
  have len := F.len _ _ _ _ prom
  have rel : Vals [V.ref a, V.ref b] [Value.ref a, Value.ref b] := .cons rfl (.cons rfl .nil)
  refine wpAny_call (codeAny_mono (F.run A X.stack s H ⟨[.ref a, .ref b], []⟩ [.ref a, .ref b] [.ref a, .ref b] _ E sb.room env (by
    have := hb s [.ref a, .ref b] I.kIn (by simpa using len)
    simpa using this) rel prom) fun t s' hq => ?_)
  cases t with
  | error e => exact hx pins σ H s e s' I hq
  | ok how =>
    cases how with
    | ret w1 =>
      obtain ⟨z, H', I', rz, ez, ex⟩ := I.after hq
      subst ez
      cases rz
      exact ⟨rfl, H', I', ex⟩
    | next => exact False.elim hq
    | brk => exact False.elim hq
    | cont => exact False.elim hq
theorem RcBG.eqBG (h : RcBG X n D) (refs : ∀ x y H r, D x y H r → ∃ a b, x = .ref a ∧ y = .ref b ∧ (a = b → r = true)) : EqBG X n D := by
  intro A pins s σ H x y u v r sb I rx ry d
  obtain ⟨a, b, rfl, rfl, self⟩ := refs _ _ _ _ d
  cases rx
  cases ry
  by_cases hab : a = b
  · subst hab
    exact SeqAt.EqAt.same (A := A) (s := s) (.ref a) X.prog X.w X.xe _ ⟨(self rfl).symm, H, I, Ext.rfl'⟩
  · refine GQ.eqBool_refG hab (wpAny_mono (h A pins s σ H (.ref a) (.ref b) _ _ r sb I rfl rfl d) (fun t s' q => ?_) fun _ _ z => z)
    obtain ⟨et, q⟩ := q
    exact ⟨r, et, rfl, q⟩
def rEqBG (D : EqvB) : R2 := fun x y H Q => ∃ r, D x y H r ∧ ∀ H', Ext H H' → Q (.bl r) H'
theorem op_eqBG (h : RcBG X n D) (hr : Room n X.A) : OpR X (compareOp .Eq) (rEqBG D) := by
  intro pins s σ H x y v u Q I rx ry q
  obtain ⟨r, d, q⟩ := q
  show wpAny (model X.prog X.w) X.A (richCompare .Eq v u) (EP X pins σ Q) X.xe s
  refine wpAny_mono (h X.A pins s σ H x y v u r ⟨hr, rfl⟩ I rx ry d) (fun t s' z => ?_) fun _ _ z => z
  obtain ⟨et, H', I', e⟩ := z
  subst et
  exact ⟨.bl r, H', I', rfl, q H' e⟩
end

-- needs: Column.__eq__ +EQB
/-! lists of Columns compared, whatever they are -/
def ColRB (K : PySem.W.Frag) : Addr → Addr → Hp → Bool → Prop := fun a b H r => ∃ c d, ColA K H a c ∧ ColA K H b d ∧ isVal c.dflt = true ∧ isVal d.dflt = true ∧ r = colEq c d
theorem colRB_mon {K : PySem.W.Frag} (a b : Addr) (H H' : Hp) (r : Bool) (e : Ext H H') (h : ColRB K a b H r) : ColRB K a b H' r := by
  obtain ⟨c, d, h1, h2, h3⟩ := h
  exact ⟨c, d, ColA.keep e h1, ColA.keep e h2, h3⟩
abbrev DColB (K : PySem.W.Frag) : EqvB := DInsB (He.ga K "Column") (ColRB K)
theorem colA_one {K : PySem.W.Frag} {H : Hp} {a : Addr} {c d : Col} (h1 : ColA K H a c) (h2 : ColA K H a d) : c = d := by
  obtain ⟨dx, e1⟩ := h1
  obtain ⟨dy, e2⟩ := h2
  rw [e1] at e2
  have e3 := (HO.ins.inj (Option.some.inj e2)).2.2
  unfold colFs at e3
  obtain ⟨n, t, v, k⟩ := c
  obtain ⟨n', t', v', k'⟩ := d
  simp only [List.cons.injEq, Prod.mk.injEq, V.str.injEq, V.int.injEq, true_and, and_true] at e3
  obtain ⟨rfl, rfl, rfl, rfl⟩ := e3
  rfl
theorem eqBG_col {X : Cx} {f : Addr} {fd : FuncData} {ps : List Str} (F : FnOk X.prog X.w X.K X.mg X.base CX0 1 f fd ps (sp_Col_eq X.K)) (hm : Meth X.K (He.ga X.K "Column") "__eq__" f) (hb : Binds X.K fd ps []) : EqBG X 1 (DColB X.K) := by
  have F2 : FnOk X.prog X.w X.K X.mg X.base CX0 1 f fd ps (spEqB (ColRB X.K)) := F.imp fun vs H Q E h => by
    obtain ⟨a, b, r, rfl, ⟨c, d, h1, h2, h3, h4, rfl⟩, k⟩ := h
    exact ⟨a, b, c, d, rfl, h1, h2, h3, h4, k H (fun _ _ e => e)⟩
  refine (rcB_ins (E := E0) F2 hm.at_ hm.fn hb pass0).eqBG fun x y H r d => ?_
  obtain ⟨a, b, _, _, _, _, h1, h2, _, _, c, d, c1, c2, _, _, er⟩ := d
  refine ⟨a, b, h1, h2, fun e => ?_⟩
  subst e
  rw [er, colA_one c1 c2, colEq_self]
/-- == of two lists of columns -/
def colsEqB (cs ds : List Col) : Bool := decide (cs.length = ds.length) && (List.range cs.length).all fun i => match cs[i]?, ds[i]? with
  | some c, some d => colEq c d
  | _, _ => true
theorem colsEqB_self (cs : List Col) : colsEqB cs cs = true := by
  unfold colsEqB
  rw [decide_eq_true rfl, Bool.true_and, List.all_eq_true]
  intro i _
  cases cs[i]? with
  | none => rfl
  | some c => exact colEq_self c
theorem dl_cols {K : PySem.W.Frag} {H : Hp} {l m : Addr} {as bs : List Addr} {cs ds : List Col} (hl : H l = some (.lst (as.map V.ref))) (hm : H m = some (.lst (bs.map V.ref))) (h1 : Cols K H as cs) (h2 : Cols K H bs ds) (v1 : ∀ c ∈ cs, isVal c.dflt = true) (v2 : ∀ c ∈ ds, isVal c.dflt = true) :
    DListB (DColB K) (.ref l) (.ref m) H (colsEqB cs ds) := by
  refine ⟨l, m, _, _, rfl, rfl, hl, hm, ?_⟩
  by_cases hlen : cs.length = ds.length
  · refine .inl ⟨by rw [List.length_map, List.length_map, h1.len, h2.len]; exact hlen, fun i => (match cs[i]?, ds[i]? with | some c, some d => colEq c d | _, _ => true), fun i x y hx hy => ?_, ?_⟩
    · rw [List.getElem?_map] at hx hy
      cases ha : as[i]? with
      | none =>
        rw [ha] at hx
        cases hx
      | some a =>
        cases hb : bs[i]? with
        | none =>
          rw [hb] at hy
          cases hy
        | some b =>
          rw [ha] at hx
          rw [hb] at hy
          obtain rfl := Option.some.inj hx
          obtain rfl := Option.some.inj hy
          obtain ⟨c, hc, q1⟩ := h1.at_ ha
          obtain ⟨d, hd, q2⟩ := h2.at_ hb
          obtain ⟨dx, e1⟩ := id q1
          obtain ⟨dy, e2⟩ := id q2
          dsimp only
          rw [hc, hd]
          exact ⟨a, b, dx, dy, _, _, rfl, rfl, e1, e2, c, d, q1, q2, v1 c (List.mem_of_getElem? hc), v2 d (List.mem_of_getElem? hd), rfl⟩
    · unfold colsEqB
      rw [decide_eq_true hlen, Bool.true_and, List.length_map, h1.len]
  · refine .inr ⟨by rw [List.length_map, List.length_map, h1.len, h2.len]; exact hlen, ?_⟩
    unfold colsEqB
    rw [decide_eq_false hlen, Bool.false_and]

/-! names are texts that can be compared -/
theorem letters_low : ∀ c ∈ letters.cps.toList, c < 0x110000 := by decide +kernel
theorem nm_ok {n : Str} (h : isNm (.str n) = true) : okV (.str n) = true := by
  have h : (decide (1 ≤ n.length) && (decide (n.length ≤ 8) && n.cps.toList.all fun c => decide (c ∈ letters.cps.toList))) = true := h
  rw [Bool.and_eq_true, Bool.and_eq_true, List.all_eq_true] at h
  show n.cps.all (fun c => decide (c < 0x110000)) = true
  rw [← Array.all_toList, List.all_eq_true]
  intro c hc
  exact decide_eq_true (letters_low c (of_decide_eq_true (h.2.2 c hc)))

-- needs: is_way is_change History.__init__ +NMOK +LISTT
/-! changes as data; two histories' columns and changes compared -/
theorem toV_ok {ch : Ch} (h : ch.fits = true) : ch.toV.all okV = true := by
  have val : ∀ {v : V}, isVal v = true → okV v = true := fun {v} hv => by
    cases v with
    | non => rfl
    | int _ => rfl
    | _ => cases hv
  have k1 : okV (.str "add") = true := by decide +kernel
  have k2 : okV (.str "drop") = true := by decide +kernel
  have k3 : okV (.str "rename") = true := by decide +kernel
  have k4 : okV (.str "default") = true := by decide +kernel
  have k5 : okV (.str "greatest") = true := by decide +kernel
  have k6 : okV (.str "fill") = true := by decide +kernel
  cases ch with
  | add n g d =>
    have h : (isNm (.str n) && ((decide (1 ≤ g) && decide (g ≤ 99)) && isVal d)) = true := h
    rw [Bool.and_eq_true, Bool.and_eq_true] at h
    show (okV (.str "add") && (okV (.str n) && (true && (okV d && true)))) = true
    rw [k1, nm_ok h.1, val h.2.2]
    rfl
  | drop n =>
    have h : isNm (.str n) = true := h
    show (okV (.str "drop") && (okV (.str n) && true)) = true
    rw [k2, nm_ok h]
    rfl
  | rename n m =>
    have h : (isNm (.str n) && isNm (.str m)) = true := h
    rw [Bool.and_eq_true] at h
    show (okV (.str "rename") && (okV (.str n) && (okV (.str m) && true))) = true
    rw [k3, nm_ok h.1, nm_ok h.2]
    rfl
  | dflt n v =>
    have h : (isNm (.str n) && isVal v) = true := h
    rw [Bool.and_eq_true] at h
    show (okV (.str "default") && (okV (.str n) && (okV v && true))) = true
    rw [k4, nm_ok h.1, val h.2]
    rfl
  | great n g w =>
    have h : (isNm (.str n) && ((decide (1 ≤ g) && decide (g ≤ 99)) && isWy w)) = true := h
    rw [Bool.and_eq_true, Bool.and_eq_true] at h
    have hw : okV (.str w) = true := by
      have q := h.2.2
      unfold isWy at q
      rw [Bool.or_eq_true, Bool.or_eq_true, decide_eq_true_iff, decide_eq_true_iff, decide_eq_true_iff] at q
      rcases q with rfl | rfl | rfl <;> decide +kernel
    show (okV (.str "greatest") && (okV (.str n) && (true && (okV (.str w) && true)))) = true
    rw [k5, nm_ok h.1, hw]
    rfl
  | fill n i =>
    have h : (isNm (.str n) && decide (0 ≤ i)) = true := h
    rw [Bool.and_eq_true] at h
    show (okV (.str "fill") && (okV (.str n) && (true && true))) = true
    rw [k6, nm_ok h.1]
    rfl
def chPD (ch : Ch) : PyData := .tuple (ch.toV.map dtV)
def chsPD (chs : List Ch) : PyData := .list (chs.map chPD)
theorem dp_ch {K : PySem.W.Frag} {H : Hp} {t : Addr} {ch : Ch} (h : ChAt K H t ch) (f : ch.fits = true) : Dp K H (.ref t) (chPD ch) := .tup h (dps_ok (toV_ok f))
theorem dp_chsAll {K : PySem.W.Frag} {H : Hp} : ∀ {ts : List Addr} {chs : List Ch}, Chs K H ts chs → (∀ ch ∈ chs, ch.fits = true) → DpAll K H (ts.map V.ref) (chs.map chPD)
  | _, _, .nil, _ => .nil
  | _, _, .cons h t, f => .cons (dp_ch h (f _ List.mem_cons_self)) (dp_chsAll t fun c m => f c (List.mem_cons_of_mem _ m))
theorem dp_chs {K : PySem.W.Frag} {H : Hp} {l : Addr} {ts : List Addr} {chs : List Ch} (hl : SqL K H l (ts.map V.ref)) (h : Chs K H ts chs) (f : ∀ ch ∈ chs, ch.fits = true) : Dp K H (.ref l) (chsPD chs) := .lst hl (dp_chsAll h f)
theorem chs_lay : ∀ {chs : List Ch}, (∀ ch ∈ chs, ch.fits = true) → PyData.canLayAll0 (chs.map chPD) = true ∧ PyData.depthAll (chs.map chPD) ≤ 1
  | [], _ => ⟨rfl, Nat.zero_le _⟩
  | ch :: r, f => by
    have h := toV_ok (f ch List.mem_cons_self)
    obtain ⟨h1, h2⟩ := lays_ok h
    obtain ⟨h3, h4⟩ := chs_lay (chs := r) fun c m => f c (List.mem_cons_of_mem _ m)
    constructor
    · show (PyData.canLayAll0 (ch.toV.map dtV) && PyData.canLayAll0 (r.map chPD)) = true
      rw [h1, h3]
      rfl
    · show max (PyData.depthAll (ch.toV.map dtV) + 1) (PyData.depthAll (r.map chPD)) ≤ 1
      omega
theorem chs_shaped {chs : List Ch} (f : ∀ ch ∈ chs, ch.fits = true) : SeqAt.shaped (chsPD chs) = true := by
  obtain ⟨h1, h2⟩ := chs_lay f
  unfold SeqAt.shaped
  rw [Bool.and_eq_true]
  refine ⟨h1, decide_eq_true ?_⟩
  show PyData.depthAll (chs.map chPD) + 1 ≤ 64
  omega
theorem ch_eqv {ch : Ch} (f : ch.fits = true) : PyData.eqv (chPD ch) (chPD ch) = true := by
  have key : ∀ {xs : List V}, xs.all okV = true → PyData.eqvAll (xs.map dtV) (xs.map dtV) = true := fun {xs} => by
    induction xs with
    | nil => exact fun _ => rfl
    | cons x r ih =>
      intro h
      rw [List.all_cons, Bool.and_eq_true] at h
      show (PyData.eqv (dtV x) (dtV x) && PyData.eqvAll (r.map dtV) (r.map dtV)) = true
      rw [eqv_ok h.1, ih h.2]
      rfl
  exact key (toV_ok f)
theorem chs_eqv : ∀ {chs : List Ch}, (∀ ch ∈ chs, ch.fits = true) → PyData.eqvAll (chs.map chPD) (chs.map chPD) = true
  | [], _ => rfl
  | ch :: r, f => by
    show (PyData.eqv (chPD ch) (chPD ch) && PyData.eqvAll (r.map chPD) (r.map chPD)) = true
    rw [ch_eqv (f ch List.mem_cons_self), chs_eqv fun c m => f c (List.mem_cons_of_mem _ m)]
    rfl

/-! values that are no instances of an own class: isinstance, == -/
section
variable {X : Cx} {CX : CXT} {k : Nat} {f : Addr} {fd : FuncData} {ps : List Str} {sp : Sp} {E : XK} {x : Str}
theorem call_isNo (h : ninB X.K x = true) : CallR X (.builtin "isinstance") (fun xs H Q => ∃ (v : V) (t : String), xs = [v, .ref (He.ga X.K x)] ∧ TyOf X.K H v (.type t) ∧ t ∈ noTs ∧ Q (.bl false) H) := by
  intro pins s σ H xs us Q I r z
  obtain ⟨v, t, rfl, ty, ht, q⟩ := z
  obtain ⟨u, w', rfl, ru, rw'⟩ := vals2 r
  cases rw'
  exact isinst_ok I ru ty (ninB_kit h ht) fun tk => ⟨.bl false, H, I.tok _, rfl, q⟩
/-- None, a bool, an int, a text: its type -/
def flatT : V → Option String
  | .non => some "NoneType"
  | .bl _ => some "bool"
  | .int _ => some "int"
  | .str _ => some "str"
  | _ => none
theorem flatT_in {v : V} {t : String} (h : flatT v = some t) : t ∈ noTs := by
  cases v <;> cases h <;> decide
theorem flatT_ty {K : PySem.W.Frag} {H : Hp} {v : V} {t : String} (h : flatT v = some t) : TyOf K H v (.type t) := by
  cases v with
  | non => cases h; exact .non
  | bl b => cases h; exact .bl b
  | int i => cases h; exact .int i
  | str z => cases h; exact .str z
  | _ => cases h
def rEqFlat (C : Addr) (sp : Sp) (E : XK) : R2 := fun a y H Q => ∃ p dx fs t, a = .ref p ∧ H p = some (.ins C dx fs) ∧ flatT y = some t ∧ sp [a, y] H (fun z H' => ∃ c, z = .bl c ∧ Q (.bl c) H') E
/-- x == y, x of a class with an own __eq__ that answers a Bool, y flat -/
theorem op_eqFlat (nin : ninB X.K x = true) (F : FnOk X.prog X.w X.K X.mg X.base CX k f fd ps sp) (hm : Meth X.K (He.ga X.K x) "__eq__" f) (hr : Room k X.A) (hb : Binds X.K fd ps []) (hx : Passes CX X E) : OpR X (compareOp .Eq) (rEqFlat (He.ga X.K x) sp E) := by
  intro pins s σ H a y v u Q I rx ry h
  obtain ⟨p, dx, fs, t, rfl, ha, ht, q⟩ := h
  cases (show v = Value.ref p from rx)
  obtain ⟨mA, J, _⟩ := ins_get I.hok ha
  obtain ⟨od, J, _⟩ := J.look
  obtain ⟨m, hF⟩ := I.fr
  have lk : PySem.W.Looks (model X.prog X.w) s.heap (typeOf u) (.type t) := by
    cases y with
    | non => cases ht; cases (show u = Value.none from ry); exact PySem.W.Looks.of_pure rfl
    | bl b => cases ht; cases (show u = Value.bool b from ry); exact PySem.W.Looks.of_pure rfl
    | int i => cases ht; obtain ⟨tk, rfl⟩ := (show ∃ tk, u = Value.int i tk from ry); exact PySem.W.Looks.of_pure rfl
    | str z => cases ht; obtain ⟨tk, rfl⟩ := (show ∃ tk, u = Value.str z tk from ry); exact PySem.W.Looks.of_pure rfl
    | _ => cases ht
  show wpAny (model X.prog X.w) X.A (richCompare .Eq (.ref p) u) (EP X pins σ Q) X.xe s
  refine PySem.W.cmp_K (op := .Eq) (tb := .type t) hr.units0 hF I.ok.mod.kin J lk (ninB_first nin (flatT_in ht)) hm.at_ hm.fn ?_
  refine wpAny_mono (runA (us := [.ref p, u]) (vs := [.ref p, y]) F hr I.env0 hb hx I (.cons rfl (.cons ry .nil)) q) (fun r s' z => ?_) fun _ _ e => e
  obtain ⟨z', H', I', rz, c, ec, qz⟩ := z
  subst ec
  cases (show r = Value.bool c from rz)
  exact ⟨.bl c, H', I', rfl, qz⟩
end

-- needs: +NINS
/-! x == y, x of a class with an own __eq__, y a dict -/
section
variable {X : Cx} {CX : CXT} {k : Nat} {f : Addr} {fd : FuncData} {ps : List Str} {sp : Sp} {E : XK} {x : Str}
def rEqDict (C : Addr) (sp : Sp) (E : XK) : R2 := fun a y H Q => ∃ p dx fs d kvs, a = .ref p ∧ y = .ref d ∧ H p = some (.ins C dx fs) ∧ H d = some (.dK kvs) ∧ sp [a, y] H (fun z H' => ∃ c, z = .bl c ∧ Q (.bl c) H') E
theorem op_eqDict (nin : ninB X.K x = true) (F : FnOk X.prog X.w X.K X.mg X.base CX k f fd ps sp) (hm : Meth X.K (He.ga X.K x) "__eq__" f) (hr : Room k X.A) (hb : Binds X.K fd ps []) (hx : Passes CX X E) : OpR X (compareOp .Eq) (rEqDict (He.ga X.K x) sp E) := by
  intro pins s σ H a y v u Q I rx ry h
  obtain ⟨p, dx, fs, d, kvs, rfl, rfl, ha, hd, q⟩ := h
  cases (show v = Value.ref p from rx)
  cases (show u = Value.ref d from ry)
  obtain ⟨mA, J, _⟩ := ins_get I.hok ha
  obtain ⟨od, J, _⟩ := J.look
  obtain ⟨m, hF⟩ := I.fr
  obtain ⟨_, _, vs, _, p1⟩ := (show ObjOk X.prog X.w H s.heap d (.dK kvs) from I.hok d _ hd)
  obtain ⟨o, es, ep, h1, h2, _⟩ := p1
  have lk : PySem.W.Looks (model X.prog X.w) s.heap (typeOf (.ref d)) (.type "dict") := fun A Q E s' kp q => wpAny_typeOf_ref (kp _ _ h1) (by rw [h2.1]; exact q)
  show wpAny (model X.prog X.w) X.A (richCompare .Eq (.ref p) (.ref d)) (EP X pins σ Q) X.xe s
  refine PySem.W.cmp_K (op := .Eq) (tb := .type "dict") hr.units0 hF I.ok.mod.kin J lk (ninB_first nin (by decide)) hm.at_ hm.fn ?_
  refine wpAny_mono (runA (us := [.ref p, .ref d]) (vs := [.ref p, .ref d]) F hr I.env0 hb hx I (.cons rfl (.cons rfl .nil)) q) (fun r s' z => ?_) fun _ _ e => e
  obtain ⟨z', H', I', rz, c, ec, qz⟩ := z
  subst ec
  cases (show r = Value.bool c from rz)
  exact ⟨.bl c, H', I', rfl, qz⟩
end

/-! x != y of instances with an own __eq__ and no own __ne__ -/
theorem kfo_specialB {prog : Program} {w : World} {A : Around} {E : Value → Shared → Prop} {s : Shared} {K : PySem.W.Frag} {x C : Addr} {ox : Obj} {od : Option Obj} {name : Str} {id : String} {args : List Value} {Q : Option Value → Shared → Prop} (X : K.In s.heap) (I : PySem.W.InstAt s.heap x ox C od) (hs : PySem.W.findIn K (.ref C) name = some (some (.builtin id)))
    (hb : ∀ self, bindSpecial (.builtin id) self = pure (.builtin id, [self])) (h : wpAny (model prog w) A (call (.builtin id) (.ref x :: args)) (fun v => Q (some v)) E s) : wpAny (model prog w) A (callSpecialIfBound? (.ref x) name args) Q E s := by
  simp only [callSpecialIfBound?, bindSpecialIfBound?]
  refine wpAny_holding (wpAny_bind (wpAny_bind (wpAny_bind (I.type.here ((PySem.W.looks_findIn X hs).here ?_)))))
  refine wpAny_bind (wpAny_askSetting (wpAny_ite ?_))
  have fin : wpAny (model prog w) A (call (.builtin id) ([.ref x] ++ args) >>= fun v => pure (some v)) Q E s := wpAny_bind (wpAny_mono h (fun v s' h' => wpAny_pure h') fun _ _ h' => h')
  split
  · exact wpAny_bind ((PySem.W.Looks.of_pure (hb _)).here (wpAny_pure (by exact fin)))
  · exact wpAny_tryCatch (wpAny_bind ((PySem.W.Looks.of_pure (hb _)).here (wpAny_pure (by exact fin))))
section
variable {X : Cx} {CX : CXT} {k : Nat} {f C : Addr} {fd : FuncData} {ps : List Str} {sp : Sp} {E : XK}
def rNeOwn (C : Addr) (sp : Sp) (E : XK) : R2 := fun x y H Q => ∃ a dx fs b dy gs, x = .ref a ∧ y = .ref b ∧ H a = some (.ins C dx fs) ∧ H b = some (.ins C dy gs) ∧ sp [x, y] H (fun z H' => ∃ c, z = .bl c ∧ Q (.bl (!c)) H') E
theorem op_neOwn (F : FnOk X.prog X.w X.K X.mg X.base CX k f fd ps sp) (hm : Meth X.K C "__eq__" f) (nc : NeC X.K C) (hr : Room (k + 1) X.A) (hb : Binds X.K fd ps []) (hx : Passes CX X E) : OpR X (compareOp .NotEq) (rNeOwn C sp E) := by
  intro pins s σ H x y v u Q I rx ry h
  obtain ⟨a, dx, fs, b, dy, gs, rfl, rfl, ha, hb', q⟩ := h
  cases (show v = Value.ref a from rx)
  cases (show u = Value.ref b from ry)
  obtain ⟨mA, J, _⟩ := ins_get I.hok ha
  obtain ⟨od, J, _⟩ := J.look
  obtain ⟨mB, J', _⟩ := ins_get I.hok hb'
  obtain ⟨od', J', _⟩ := J'.look
  obtain ⟨m, hF⟩ := I.fr
  show wpAny (model X.prog X.w) X.A (richCompare .NotEq (.ref a) (.ref b)) (EP X pins σ Q) X.xe s
  have run : wpAny (model X.prog X.w) X.A.in1 (call (.ref f) [.ref a, .ref b]) (fun v s' => ∃ c, v = .bool c ∧ EP X pins σ Q (.bool (!c)) s') X.xe s := by
    refine wpAny_mono (runA (us := [.ref a, .ref b]) (vs := [.ref a, .ref b]) F hr.in1 I.env0.in1 hb hx I (.cons rfl (.cons rfl .nil)) q) (fun r s' z => ?_) fun _ _ e => e
    obtain ⟨z', H', I', rz, c, ec, qz⟩ := z
    subst ec
    cases (show r = Value.bool c from rz)
    exact ⟨c, rfl, .bl (!c), H', I', rfl, qz⟩
  have one : wpAny (model X.prog X.w) X.A (tryCompare (.ref a) "__ne__" (.ref b)) (fun r s' => ∃ v, r = some v ∧ EP X pins σ Q v s') X.xe s := by
    unfold tryCompare
    refine wpAny_bind (kfo_specialB I.kIn J nc.at_ PySem.F.cmp_object.ne.bind (wpAny_call (codeAny_call_builtin PySem.F.cmp_object.ne.plain PySem.F.cmpEntry_ne (PySem.W.check_slot PySem.F.cmpKind_ne PySem.F.cmpSplit_ne (J.type.andThen (PySem.W.looks_mroIn I.kIn nc.ob)) (PySem.F.cmpArgs_ne _ _) ?_))))
    unfold Builtin.«object.__ne__»
    refine wpAny_bind (m := slotArgs "__ne__" 1 _) (wpAny_pure ?_)
    refine wpAny_bind (m := cRoomFor _ _) (wpAny_cRoomFor hr.in1.units0 ?_)
    refine wpAny_bind (m := callSpecialIfBound? (.ref a) (Str.ofString "__eq__") [.ref b]) (PySem.W.ifBound_K I.kIn J hm.at_ hm.fn (wpAny_mono run (fun r s' hr' => ?_) fun _ _ e => e))
    obtain ⟨c, rfl, hc⟩ := hr'
    refine wpAny_bind (m := truthy (.bool c)) (wpAny_truthy_bool ?_)
    refine wpAny_pure ?_
    exact wpAny_pure ⟨_, rfl, hc⟩
  unfold richCompare
  simp only [oneThing_ref]
  refine wpAny_holding (wpAny_bind (wpAny_cRoomFor hr.units0 ?_))
  rw [cmpInfo_NotEq]
  dsimp only
  refine wpAny_bind (J.type.here (wpAny_bind (J'.type.here ?_)))
  rw [show (Value.ref C != Value.ref C) = false from by simp]
  simp only [Bool.false_eq_true, if_false]
  refine wpAny_bind (wpAny_pure ?_)
  simp only [Bool.false_eq_true, if_false]
  refine wpAny_bind (wpAny_mono one (fun r s' z => ?_) fun _ _ e => e)
  obtain ⟨v, rfl, hq⟩ := z
  exact wpAny_pure hq
end
theorem hr64 {k : Nat} {A : Around} (r : Room k A) : A.units + 64 < cLine := by
  have := r.un
  omega
/-- a test that compares, the last of its block: the first side first -/
theorem pl_ifop {σ : L2.St} {H : Hp} {D : Ends} {ta tb : TE} {r : R2} {t u : TS} (h : ta σ H fun x H1 => tb σ H1 fun y H2 => r x y H2 fun z H3 => ∃ b, z = .bl b ∧ (if b = true then t D σ H3 else u D σ H3)) : tIfS (tB (tOp r ta tb)) t u D σ H := h

/-! history == other -/
def histEq (cs : List Col) (chs : List Ch) (ds : List Col) (dhs : List Ch) : Bool := colsEqB cs ds && PyData.eqv (chsPD chs) (chsPD dhs)
def sp_Hist_eq (K : PySem.W.Frag) : Sp := fun vs H Q _ => ∃ (h g : Addr) (cs ds : List Col) (chs dhs : List Ch), vs = [.ref h, .ref g] ∧ HistAt K H h cs chs ∧ HistAt K H g ds dhs ∧ (∀ c ∈ cs, isVal c.dflt = true) ∧ (∀ c ∈ ds, isVal c.dflt = true) ∧ (∀ ch ∈ chs, ch.fits = true) ∧ (∀ ch ∈ dhs, ch.fits = true) ∧
  ∀ H', Same H H' → Q (.bl (histEq cs chs ds dhs)) H'
theorem ok_Hist_eq (T : Tx K mg) : ∃ fd, FnOk P w K mg base CX0 3 (He.ma K (He.ga K "History") "__eq__") fd ["self", "other"] (sp_Hist_eq K) ∧ Binds K fd ["self", "other"] [] := by
  have ic := insC_of (ex_History T) (cl_History T)
  have cl := cl_History T
  obtain ⟨fdE, FE, bE⟩ := ok_Col_eq (P := P) (w := w) (base := base) T
  refine mkMeth (fd_History___eq__ T) sc_History___eq__ (fun _ _ _ _ _ _ us hl => match us, hl with | [_, _], _ => rfl) (fun vs H Q E h => ?_) (fun cdv A outer s H vs Q E hr h => ?_)
  · obtain ⟨h, g, cs, ds, chs, dhs, rfl, _⟩ := h
    rfl
  obtain ⟨h, g, cs, ds, chs, dhs, rfl, hh, hg, v1, v2, f1, f2, k⟩ := h
  obtain ⟨dx, e, c, b, d, es, ts, a1, a2, a3, a4, a5, a6, a7⟩ := id hh
  obtain ⟨dx', e', c', b', d', es', ts', b1, b2, b3, b4, b5, b6, b7⟩ := id hg
  have l1 : 0 < es.length := by rw [a3.len, edsTo_len]; omega
  have l2 : 0 < es'.length := by rw [b3.len, edsTo_len]; omega
  obtain ⟨cs1, as1, p1, p2, p3⟩ := a3.at_ (List.getElem?_eq_getElem l1)
  rw [edsTo_get (by omega)] at p1
  obtain rfl := Option.some.inj p1
  obtain ⟨cs2, as2, r1, r2, r3⟩ := b3.at_ (List.getElem?_eq_getElem l2)
  rw [edsTo_get (by omega)] at r1
  obtain rfl := Option.some.inj r1
  have p3 : Cols K H as1 cs := p3
  have r3 : Cols K H as2 ds := r3
  refine ⟨_, pss_one (ps_ret (pe_and (pe_callB (C8.call_isC ic) (by rfl) (fr_isinstance T) (by decide +kernel) (pa_cons (pv 1) (pa_cons (pe_glob (v := .ref (He.ga K "History")) (by rfl) (mg_History T) rfl) pa_nil)))
    (pe_and (pe_cmpR (op_eqBG (rcB_list (mon_insB colRB_mon) (eqBG_col FE (me_Column___eq__ T) bE)) hr) (pe_ix ix_list (pe_fld (pv 0) rfl) pe_int (fun _ _ => rfl)) (pe_ix ix_list (pe_fld (pv 1) rfl) pe_int (fun _ _ => rfl)) (nomark _))
      (pe_one (pe_cmpR (op_eqD (hr64 hr)) (pe_fld (pv 0) rfl) (pe_fld (pv 1) rfl) (nomark _)))))), ?_⟩
  refine ⟨_, rfl, g, dx', _, rfl, b1, _, rfl, iteT ?_⟩
  refine ⟨_, rfl, h, _, dx, _, _, rfl, a1, cl, na_History__editions T, histFs_editions, e, es.map V.ref, 0, .ref es[0], rfl, rfl, sqL_of a2, atI_nat (j := 0) (by rw [List.getElem?_map, List.getElem?_eq_getElem l1]; rfl),
    _, rfl, g, _, dx', _, _, rfl, b1, cl, na_History__editions T, histFs_editions, e', es'.map V.ref, 0, .ref es'[0], rfl, rfl, sqL_of b2, atI_nat (j := 0) (by rw [List.getElem?_map, List.getElem?_eq_getElem l2]; rfl), colsEqB cs ds, dl_cols p2 r2 p3 r3 v1 v2, fun H1 s1 => ⟨_, rfl, ?_⟩⟩
  unfold histEq at k
  cases q : colsEqB cs ds with
  | false =>
    rw [q] at k
    exact iteF (k H1 s1)
  | true =>
    rw [q, Bool.true_and] at k
    have s1 : Same H H1 := s1
    exact iteT ⟨_, rfl, h, _, dx, _, _, rfl, s1 _ _ a1, cl, na_History__changes T, histFs_changes, _, rfl, g, _, dx', _, _, rfl, s1 _ _ b1, cl, na_History__changes T, histFs_changes, chsPD chs, chsPD dhs, dp_chs (sqL_of (s1 _ _ a4)) (a5.keep s1) f1, dp_chs (sqL_of (s1 _ _ b4)) (b5.keep s1) f2, chs_shaped f1, chs_shaped f2, k H1 s1⟩
/-- what is no History is another thing -/
def sp_Hist_eqN (K : PySem.W.Frag) : Sp := fun vs H Q _ => ∃ (h : Addr) (y : V) (t : String), vs = [.ref h, y] ∧ TyOf K H y (.type t) ∧ t ∈ noTs ∧ Q (.bl false) H
theorem ok_Hist_eqN (T : Tx K mg) : ∃ fd, FnOk P w K mg base CX0 3 (He.ma K (He.ga K "History") "__eq__") fd ["self", "other"] (sp_Hist_eqN K) ∧ Binds K fd ["self", "other"] [] := by
  have nin : ninB K "History" = true := ex_History_nin T
  obtain ⟨fdE, FE, bE⟩ := ok_Col_eq (P := P) (w := w) (base := base) T
  refine mkMeth (fd_History___eq__ T) sc_History___eq__ (fun _ _ _ _ _ _ us hl => match us, hl with | [_, _], _ => rfl) (fun vs H Q E h => ?_) (fun cdv A outer s H vs Q E hr h => ?_)
  · obtain ⟨h, y, t, rfl, _⟩ := h
    rfl
  obtain ⟨h, y, t, rfl, ty, ht, k⟩ := h
  refine ⟨_, pss_one (ps_ret (pe_and (pe_callB (call_isNo nin) (by rfl) (fr_isinstance T) (by decide +kernel) (pa_cons (pv 1) (pa_cons (pe_glob (v := .ref (He.ga K "History")) (by rfl) (mg_History T) rfl) pa_nil)))
    (pe_and (pe_cmpR (op_eqBG (rcB_list (mon_insB colRB_mon) (eqBG_col FE (me_Column___eq__ T) bE)) hr) (pe_ix ix_list (pe_fld (pv 0) rfl) pe_int (fun _ _ => rfl)) (pe_ix ix_list (pe_fld (pv 1) rfl) pe_int (fun _ _ => rfl)) (nomark _))
      (pe_one (pe_cmpR (op_eqD (hr64 hr)) (pe_fld (pv 0) rfl) (pe_fld (pv 1) rfl) (nomark _)))))), ?_⟩
  exact ⟨_, rfl, y, t, rfl, ty, ht, _, rfl, iteF k⟩
/-! x[i] of an instance with an own __getitem__ -/
section
variable {X : Cx} {CX : CXT} {k : Nat} {f C : Addr} {fd : FuncData} {ps : List Str} {sp : Sp} {E : XK}
def rIxOwn (C : Addr) (sp : Sp) (E : XK) : R2 := fun x y H Q => ∃ (a dx : Addr) (fs : List (Str × V)), x = .ref a ∧ H a = some (.ins C dx fs) ∧ sp [x, y] H Q E
theorem pe_ixOwn {a b : Expr} {pos : Pos} {ta tb : TE} (F : FnOk X.prog X.w X.K X.mg X.base CX k f fd ps sp) (hm : Meth X.K C "__getitem__" f) (hf : PySem.W.fnIn X.K f = true) (hr : Room (k + 1) X.A) (hb : Binds X.K fd ps []) (hx : Passes CX X E) (ha : PE X a ta) (hb2 : PE X b tb)
    (hl : ∀ (x : Addr) (i : Value), subscripted b true (.ref x) i = runValue (.builtin "lifetime.subscript" ⟨[.ref x, i], []⟩)) : PE X (.Subscript a b pos) (tOp (rIxOwn C sp E) ta tb) := by
  refine ⟨fun pins s σ H Q I h => ?_⟩
  refine Subscript_ (binT ha hb2 I h fun v u s2 x y H2 I2 rx ry q => ?_)
  obtain ⟨c, dx, fs, ex, hc, q⟩ := q
  subst ex
  cases (show v = Value.ref c from rx)
  obtain ⟨mA, J, _⟩ := ins_get I2.hok hc
  obtain ⟨od, J, _⟩ := J.look
  obtain ⟨m, hF⟩ := I2.fr
  exact PySem.W.sub_K hF I2.ok.mod.kin J hm.at_ hf hm.fn (runA (us := [.ref c, u]) (vs := [.ref c, y]) F hr.in1 I2.env0.in1 hb hx I2 (.cons rfl (.cons ry .nil)) q) (hl c u)
end

/-! history[i], of an index of a change -/
theorem lref_getAt {as : List Addr} {j : Nat} {a : Addr} (h : as[j]? = some a) : atI (as.map V.ref) ((j : Nat) : Int) = some (.ref a) := by
  have hj := (List.getElem?_eq_some_iff.mp h).1
  unfold atI
  rw [ixN_ok (by omega) (by rw [List.length_map]; omega)]
  show (as.map V.ref)[j]? = _
  rw [List.getElem?_map, h]
  rfl
def sp_Hist_get (K : PySem.W.Frag) : Sp := fun vs H Q _ => ∃ (h : Addr) (cs : List Col) (chs : List Ch) (i : Nat), vs = [.ref h, .int (i : Nat)] ∧ HistAt K H h cs chs ∧ i < chs.length ∧ ∀ (t : Addr) (ch : Ch), chs[i]? = some ch → ChAt K H t ch → Q (.ref t) H
theorem ok_Hist_get (T : Tx K mg) : ∃ fd, FnOk P w K mg base CX0 2 (He.ma K (He.ga K "History") "__getitem__") fd ["self", "at"] (sp_Hist_get K) ∧ Binds K fd ["self", "at"] [] := by
  have C1 := ok_is_whole (P := P) (w := w) (base := base) T
  obtain ⟨fd, F⟩ := fd_History___getitem__ T
  refine ⟨fd, F.ok (CX := CX0) sc_History___getitem__ (fun vs H Q E h => ?_) (fun cdv A outer s H vs Q E hr h => ?_), F.bindsN fun _ _ _ _ _ _ us hl => match us, hl with | [_, _], _ => rfl⟩
  · obtain ⟨h, cs, chs, i, rfl, _⟩ := h
    rfl
  suffices hh : ∃ t, PSs (cxOf CX0 P w K mg base ["self", "at"] "History.__getitem__" (defScope s_History___getitem__) (He.ma K (He.ga K "History") "__getitem__") cdv A outer s H E).nox (defBody s_History___getitem__) t ∧
      t { nx := fun _ H' => Q .non H', rt := Q } (start ["self", "at"] vs) H by
    obtain ⟨t, h1, h2⟩ := hh
    exact ⟨t, h1.nox, h2⟩
  obtain ⟨h, cs, chs, i, rfl, ⟨dx, e, c, b, d, es, ts, hh, he, hE, hc, hC, hb, hd⟩, hi, k⟩ := h
  have cl := cl_History T
  refine ⟨_, pss_cons (ps_if (PW.pt (pw_or (pt_not (pt_val (pcall C1 hr (pa_cons (pv 1) pa_nil)))) (pw_or1 (pt_not (pt_chain op_le op_lt pe_int (pv 1) (pe_callB call_len (by rfl) (fr_len T) PySem.boot_len (pa_cons (pe_fld (pv 0) rfl) pa_nil))))))) (pss_one ps_never) pss_nil)
    (pss_one (ps_ret (pe_ix ix_list (pe_fld (pv 0) rfl) (pv 1) (fun _ _ => rfl)))), ?_⟩
  have hti : i < ts.length := by rw [hC.len]; exact hi
  obtain ⟨ch, hch, hat⟩ := hC.at_ (List.getElem?_eq_getElem hti)
  refine ⟨_, rfl, .int (i : Nat), _, rfl, .base (.int _), _, rfl, iteF ?_⟩
  refine ⟨_, rfl, _, _, rfl, rfl, _, rfl, ?_⟩
  rw [decide_eq_true (show (0 : Int) ≤ ((i : Nat) : Int) by omega)]
  refine iteT ⟨_, rfl, h, _, dx, _, _, rfl, hh, cl, na_History__changes T, histFs_changes, _, chs.length, rfl, .inl ⟨_, sqL_of hc, by rw [List.length_map, hC.len]⟩, _, _, rfl, rfl, _, rfl, ?_⟩
  rw [decide_eq_true (show ((i : Nat) : Int) < ((chs.length : Nat) : Int) by omega)]
  refine iteF (nxt ⟨_, rfl, h, _, dx, _, _, rfl, hh, cl, na_History__changes T, histFs_changes, _, rfl, c, _, ((i : Nat) : Int), _, rfl, rfl, sqL_of hc, lref_getAt (List.getElem?_eq_getElem hti), k _ ch hch hat⟩)
/-! History.first_columns -/
def sp_Hist_first (K : PySem.W.Frag) : Sp := fun vs H Q _ => ∃ (h : Addr) (cs : List Col) (chs : List Ch), vs = [.ref h] ∧ HistAt K H h cs chs ∧
  ∀ (l : Addr) (as : List Addr) (H' : Hp), H l = none → Same H H' → H' l = some (.lst (as.map V.ref)) → Cols K H' as cs → Q (.ref l) H'
theorem ok_Hist_first (T : Tx K mg) : ∃ fd, FnOk P w K mg base CX0 1 (He.ma K (He.ga K "History") "first_columns") fd ["self"] (sp_Hist_first K) ∧ Binds K fd ["self"] [] := by
  refine mkMeth (fd_History_first_columns T) sc_History_first_columns (fun _ _ _ _ _ _ us hl => match us, hl with | [_], _ => rfl) (fun vs H Q E h => ?_) (fun cdv A outer s H vs Q E hr h => ?_)
  · obtain ⟨h, cs, chs, rfl, _⟩ := h
    rfl
  obtain ⟨h, cs, chs, rfl, hq, k⟩ := h
  obtain ⟨dx, e, c, b, d, es, ts, hh, he, hE, hc, hC, hb, hd⟩ := id hq
  have hlen : es.length = chs.length + 1 := by rw [hE.len, edsTo_len]
  have hi : 0 < es.length := by omega
  obtain ⟨cs1, as1, hcs1, hea, hc1⟩ := hE.at_ (List.getElem?_eq_getElem hi)
  rw [edsTo_get (by omega)] at hcs1
  obtain rfl := Option.some.inj hcs1
  refine ⟨_, pss_one (ps_ret (pe_callTy call_list_of (by rfl) (fr_list T) (by decide +kernel) (pa_cons (pe_ix ix_list (pe_fld (pv 0) rfl) pe_int (fun _ _ => rfl)) pa_nil))), ?_⟩
  refine ⟨_, rfl, h, _, dx, _, _, rfl, hh, cl_History T, na_History__editions T, histFs_editions, e, es.map V.ref, 0, .ref es[0], rfl, rfl, sqL_of he, atI_nat (j := 0) (by rw [List.getElem?_map, List.getElem?_eq_getElem hi]; rfl), _, _, rfl, .inl (sqL_of hea), fun l nl => ?_⟩
  exact k l as1 _ nl (same_new nl) upd_same (hc1.keep (same_new nl))
/-! history.columns(edition) -/
theorem isEd_ix {n : Nat} {x : V} (h : x = .non ∨ isEd n x = true) : 0 ≤ edOf n x ∧ edOf n x ≤ (n : Nat) := by
  rcases h with rfl | h
  · exact ⟨by show (0 : Int) ≤ (n : Nat); omega, Int.le_refl _⟩
  · cases x with
    | int i =>
      have h : (decide (0 ≤ i) && decide (i ≤ (n : Nat))) = true := h
      rw [Bool.and_eq_true] at h
      exact ⟨of_decide_eq_true h.1, of_decide_eq_true h.2⟩
    | _ => cases h
def colsAt (cs : List Col) (chs : List Ch) (x : V) : List Col := (atC cs (chs.take (edOf chs.length x).toNat)).1
def sp_Hist_columns (K : PySem.W.Frag) : Sp := fun vs H Q _ => ∃ (h : Addr) (cs : List Col) (chs : List Ch) (x : V), vs = [.ref h, x] ∧ HistAt K H h cs chs ∧ chs.length ≤ 1000 ∧ (x = .non ∨ isEd chs.length x = true) ∧
  ∀ (l : Addr) (as : List Addr) (H' : Hp), H l = none → Same H H' → H' l = some (.lst (as.map V.ref)) → Cols K H' as (colsAt cs chs x) → Q (.ref l) H'
theorem ok_Hist_columnsK (T : Tx K mg) : ∃ fd, FnOk P w K mg base CX0 5 (He.ma K (He.ga K "History") "columns") fd ["self", "edition"] (sp_Hist_columns K) ∧ Binds K fd ["self", "edition"] [] ∧ (∃ ds, Vals [V.non] ds ∧ Binds K fd ["self", "edition"] ds) ∧ FunD K "columns" "History.columns" (defArgs s_History_columns) (defBody s_History_columns) (defScope s_History_columns) (d_History_columns.dvs K) (d_History_columns.kws K) (He.ma K (He.ga K "History") "columns") fd := by
  have C1 := ok_edition_of (P := P) (w := w) (base := base) T
  obtain ⟨fd, F⟩ := fd_History_columns T
  refine ⟨fd, F.ok (CX := CX0) sc_History_columns (fun vs H Q E h => ?_) (fun cdv A outer s H vs Q E hr h => ?_), ?_, ?_, ?_⟩
  · obtain ⟨h, cs, chs, x, rfl, _⟩ := h
    rfl
  · suffices hh : ∃ t, PSs (cxOf CX0 P w K mg base ["self", "edition"] "History.columns" (defScope s_History_columns) (He.ma K (He.ga K "History") "columns") cdv A outer s H E).nox (defBody s_History_columns) t ∧
        t { nx := fun _ H' => Q .non H', rt := Q } (start ["self", "edition"] vs) H by
      obtain ⟨t, h1, h2⟩ := hh
      exact ⟨t, h1.nox, h2⟩
    obtain ⟨h, cs, chs, x, rfl, hq, few, hx, k⟩ := h
    obtain ⟨dx, e, c, b, d, es, ts, hh, he, hE, hc, hC, hb, hd⟩ := id hq
    have bd := isEd_ix hx
    have hlen : es.length = chs.length + 1 := by rw [hE.len, edsTo_len]
    have hi : (edOf chs.length x).toNat < es.length := by omega
    obtain ⟨cs1, as1, hcs1, hea, hc1⟩ := hE.at_ (List.getElem?_eq_getElem hi)
    rw [edsTo_get (by omega)] at hcs1
    obtain rfl := Option.some.inj hcs1
    refine ⟨_, pss_one (ps_ret (pe_callTy call_list_of (by rfl) (fr_list T) (by decide +kernel) (pa_cons (pe_ix ix_list (pe_fld (pv 0) rfl) (pcall C1 hr (pa_cons (pv 0) (pa_cons (pv 1) pa_nil))) (fun _ _ => rfl)) pa_nil))), ?_⟩
    refine ⟨_, rfl, h, _, dx, _, _, rfl, hh, cl_History T, na_History__editions T, histFs_editions, _, rfl, _, rfl, h, cs, chs, x, rfl, hq, few, hx, e, es.map V.ref, edOf chs.length x, .ref es[(edOf chs.length x).toNat], rfl, rfl, sqL_of he, ?_, _, _, rfl, .inl (sqL_of hea), fun l nl => ?_⟩
    · unfold atI
      rw [ixN_ok bd.1 (by rw [List.length_map]; omega)]
      show (es.map V.ref)[(edOf chs.length x).toNat]? = _
      rw [List.getElem?_map, List.getElem?_eq_getElem hi]
      rfl
    · exact k l as1 _ nl (same_new nl) upd_same (hc1.keep (same_new nl))
  · have h := F.binds1 (ps := ["self", "edition"]) 2 1 (by intro z; cases z) rfl (fun TT kV doc pm an cdv ct us its h1 h2 => ?_)
    · obtain ⟨ds, v, b⟩ := h
      cases ds with
      | nil => exact b
      | cons _ _ => cases v
    · match us, h1, its, h2 with
      | [u0, u1], _, [i0], _ => exact ⟨_, rfl, rfl⟩
  · exact F.binds1 (ps := ["self", "edition"]) 1 0 (by intro z; cases z) rfl (fun TT kV doc pm an cdv ct us its h1 h2 => by
      match us, h1, its, h2 with
      | [u0], _, [i0], _ => exact ⟨_, rfl, rfl⟩)
  · exact F
theorem ok_Hist_columns (T : Tx K mg) : ∃ fd, FnOk P w K mg base CX0 5 (He.ma K (He.ga K "History") "columns") fd ["self", "edition"] (sp_Hist_columns K) ∧ Binds K fd ["self", "edition"] [] ∧ ∃ ds, Vals [V.non] ds ∧ Binds K fd ["self", "edition"] ds := by
  obtain ⟨fd, a, b, c, _⟩ := ok_Hist_columnsK (P := P) (w := w) (base := base) T
  exact ⟨fd, a, b, c⟩
/-! history.changes_told() -/
def sp_Hist_changes (K : PySem.W.Frag) : Sp := fun vs H Q _ => ∃ (h : Addr) (cs : List Col) (chs : List Ch), vs = [.ref h] ∧ HistAt K H h cs chs ∧
  ∀ (l : Addr) (ts : List Addr) (H' : Hp), H l = none → Same H H' → H' l = some (.lst (ts.map V.ref)) → Chs K H' ts chs → Q (.ref l) H'
theorem ok_Hist_changes (T : Tx K mg) : ∃ fd, FnOk P w K mg base CX0 1 (He.ma K (He.ga K "History") "changes_told") fd ["self"] (sp_Hist_changes K) ∧ Binds K fd ["self"] [] := by
  refine mkMeth (fd_History_changes_told T) sc_History_changes_told (fun _ _ _ _ _ _ us hl => match us, hl with | [_], _ => rfl) (fun vs H Q E h => ?_) (fun cdv A outer s H vs Q E hr h => ?_)
  · obtain ⟨h, cs, chs, rfl, _⟩ := h
    rfl
  obtain ⟨h, cs, chs, rfl, hq, k⟩ := h
  obtain ⟨dx, e, c, b, d, es, ts, hh, he, hE, hc, hC, hb, hd⟩ := id hq
  refine ⟨_, pss_one (ps_ret (pe_callTy call_list_of (by rfl) (fr_list T) (by decide +kernel) (pa_cons (pe_fld (pv 0) rfl) pa_nil))), ?_⟩
  refine ⟨_, rfl, h, _, dx, _, _, rfl, hh, cl_History T, na_History__changes T, histFs_changes, _, _, rfl, .inl (sqL_of hc), fun l nl => ?_⟩
  exact k l ts _ nl (same_new nl) upd_same (hC.keep (same_new nl))
/-! History.column, of a name that is there -/
def sp_Hist_column (K : PySem.W.Frag) : Sp := fun vs H Q _ => ∃ (h : Addr) (cs : List Col) (chs : List Ch) (x : V) (c : Col), vs = [.ref h, .str c.name, x] ∧ HistAt K H h cs chs ∧ chs.length ≤ 1000 ∧ (x = .non ∨ isEd chs.length x = true) ∧ c ∈ colsAt cs chs x ∧ ((colsAt cs chs x).map (·.name)).Nodup ∧
  ∀ a, ColA K H a c → Q (.ref a) H
theorem ok_Hist_column (T : Tx K mg) : ∃ fd, FnOk P w K mg base CX0 5 (He.ma K (He.ga K "History") "column") fd ["self", "name", "edition"] (sp_Hist_column K) ∧ (∃ g, KBn K fd ["self", "name", "edition"] 2 ["edition"] g (fun vs zs => vs ++ zs)) ∧ ∃ ds, Vals [V.non] ds ∧ Binds K fd ["self", "name", "edition"] ds := by
  have C1 := ok_edition_of (P := P) (w := w) (base := base) T
  have C2 := (ok_column_named (P := P) (w := w) (base := base) T).up (show 1 ≤ 4 by decide)
  obtain ⟨fd, F⟩ := fd_History_column T
  refine ⟨fd, F.ok (CX := CX0) sc_History_column (fun vs H Q E h => ?_) (fun cdv A outer s H vs Q E hr h => ?_), ?_, ?_⟩
  · obtain ⟨h, cs, chs, x, c, rfl, _⟩ := h
    rfl
  · suffices hh : ∃ t, PSs (cxOf CX0 P w K mg base ["self", "name", "edition", "found"] "History.column" (defScope s_History_column) (He.ma K (He.ga K "History") "column") cdv A outer s H E).nox (defBody s_History_column) t ∧
        t { nx := fun _ H' => Q .non H', rt := Q } (start ["self", "name", "edition", "found"] vs) H by
      obtain ⟨t, h1, h2⟩ := hh
      exact ⟨t, h1.nox, h2⟩
    obtain ⟨h, cs, chs, x, c0, rfl, hq, few, hx, hcm, hnd, k⟩ := h
    have nd := sc_History_column.nd
    obtain ⟨dx, e, c, b, d, es, ts, hh, he, hE, hc, hC, hb, hd⟩ := id hq
    have bd := isEd_ix hx
    have hlen : es.length = chs.length + 1 := by rw [hE.len, edsTo_len]
    have hi : (edOf chs.length x).toNat < es.length := by omega
    obtain ⟨cs1, as1, hcs1, hea, hc1⟩ := hE.at_ (List.getElem?_eq_getElem hi)
    rw [edsTo_get (by omega)] at hcs1
    obtain rfl := Option.some.inj hcs1
    refine ⟨_, (pss_cons (ps_set (i := 3) nd rfl (Or.inl rfl) (pcall C2 hr (pa_cons (pe_ix ix_list (pe_fld (pv 0) rfl) (pcall C1 hr (pa_cons (pv 0) (pa_cons (pv 2) pa_nil))) (fun _ _ => rfl)) (pa_cons (pv 1) pa_nil))))
        (pss_cons (ps_if (pt_cmpR op_isN (pv 3) pe_non (nomark _)) (pss_one ps_never) pss_nil)
        (pss_one (ps_ret (pv 3))))), ?_⟩
    have ha0 : atI (es.map V.ref) (edOf chs.length x) = some (.ref es[(edOf chs.length x).toNat]) := by
      unfold atI
      rw [ixN_ok bd.1 (by rw [List.length_map]; omega)]
      show (es.map V.ref)[(edOf chs.length x).toNat]? = _
      rw [List.getElem?_map, List.getElem?_eq_getElem hi]
      rfl
    have hfu := find_uniq (cs := colsAt cs chs x) hnd hcm rfl
    refine q_asgX ⟨_, rfl, h, _, dx, _, _, rfl, hh, cl_History T, na_History__editions T, histFs_editions, _, rfl, _, rfl, h, cs, chs, x, rfl, hq, few, hx, e, es.map V.ref, edOf chs.length x, .ref es[(edOf chs.length x).toNat], rfl, rfl, sqL_of he, ha0, _, rfl, _, as1, colsAt cs chs x, c0.name, rfl, .inl (sqL_of hea), hc1, fun v hv => ?_⟩
    rcases hv with ⟨_, hno⟩ | ⟨j, a, c', rfl, ha, hcj, hfi⟩
    · rw [hfu] at hno
      cases hno
    obtain rfl : c0 = c' := Option.some.inj (hfu.symm.trans hfi)
    obtain ⟨c', q1, q2⟩ := hc1.at_ ha
    obtain rfl : c0 = c' := Option.some.inj (hcj.symm.trans q1)
    refine ⟨_, rfl, rfl, _, rfl, iteD (fun z => by cases z) (nxt ⟨_, rfl, k a q2⟩)⟩
  · have h := F.kbinds0 (ps := ["self", "name", "edition"]) 2 ["edition"] [] (fun us mv ws => us ++ ws) (by intro z; cases z) (by intro q hq; cases hq) (fun r1 _ r4 => r1.append r4) (fun D doc pm an cdv ct us mv ws h1 h2 h3 => ?_)
    · obtain ⟨mv, h⟩ := h
      exact ⟨_, h⟩
    · match us, h1, mv, h2, ws, h3 with
      | [u0, u1], _, [], _, [w0], _ => exact rfl
  · exact F.binds0 (ps := ["self", "name", "edition"]) 2 (by intro z; cases z) rfl (fun D doc pm an cdv ct us ks h1 h2 => by
      match us, h1, ks, h2 with
      | [u0, u1], _, [i0], _ => exact ⟨_, _, _, _, _, _, rfl, rfl, rfl⟩)
/-! a History as the receiver of a method; whole numbers of values -/
theorem histFs_no {e c b d : Addr} {m : Str} (h1 : (m == "_editions") = false) (h2 : (m == "_changes") = false) (h3 : (m == "_births") = false) (h4 : (m == "_drops") = false) : (histFs e c b d).lookup m = none := by
  unfold histFs
  simp [List.lookup, h1, h2, h3, h4]
theorem histM {K : PySem.W.Frag} {H : Hp} {h : Addr} {cs : List Col} {chs : List Ch} (q : HistAt K H h cs chs) : ∃ dx fs, H h = some (.ins (He.ga K "History") dx fs) ∧ fs.lookup ("columns" : Str) = none := by
  obtain ⟨dx, e, c, b, d, es, ts, hh, _⟩ := q
  exact ⟨dx, _, hh, histFs_no (by decide +kernel) (by decide +kernel) (by decide +kernel) (by decide +kernel)⟩
theorem histMx (m : Str) (d : ((m == "_editions") || ((m == "_changes") || ((m == "_births") || (m == "_drops")))) = false) {K : PySem.W.Frag} {H : Hp} {h : Addr} {cs : List Col} {chs : List Ch} (q : HistAt K H h cs chs) : ∃ dx fs, H h = some (.ins (He.ga K "History") dx fs) ∧ fs.lookup m = none := by
  obtain ⟨dx, e, c, b, d', es, ts, hh, _⟩ := q
  rw [Bool.or_eq_false_iff, Bool.or_eq_false_iff, Bool.or_eq_false_iff] at d
  exact ⟨dx, _, hh, histFs_no d.1 d.2.1 d.2.2.1 d.2.2.2⟩
theorem isEd_nat' {n m : Nat} (h : m ≤ n) : isEd n (.int (m : Nat)) = true := by
  show (decide ((0 : Int) ≤ (m : Nat)) && decide (((m : Nat) : Int) ≤ (n : Nat))) = true
  rw [decide_eq_true (by omega), decide_eq_true (by omega)]
  rfl
theorem ix_int {xs : List V} {n : Int} {v : V} (h0 : 0 ≤ n) (h : xs[n.toNat]? = some v) : atI xs n = some v := by
  have hl := (List.getElem?_eq_some_iff.mp h).1
  unfold atI
  rw [ixN_ok h0 (by omega)]
  exact h

/-! history.numbers() -/
def sp_Hist_numbers (K : PySem.W.Frag) : Sp := fun vs H Q _ => ∃ (h : Addr) (cs : List Col) (chs : List Ch), vs = [.ref h] ∧ HistAt K H h cs chs ∧ HistOk cs chs ∧ Q (.int (atC cs chs).2) H
theorem ok_Hist_numbers (T : Tx K mg) : ∃ fd, FnOk P w K mg base CX0 1 (He.ma K (He.ga K "History") "numbers") fd ["self"] (sp_Hist_numbers K) ∧ Binds K fd ["self"] [] := by
  refine mkMeth (fd_History_numbers T) sc_History_numbers (fun _ _ _ _ _ _ us hl => match us, hl with | [_], _ => rfl) (fun vs H Q E h => ?_) (fun cdv A outer s H vs Q E hr h => ?_)
  · obtain ⟨h, cs, chs, rfl, _⟩ := h
    rfl
  obtain ⟨h, cs, chs, rfl, ⟨dx, e, c, b, d, es, ts, hh, he, hE, hc, hC, hb, hd⟩, o, k⟩ := h
  refine ⟨_, pss_one (ps_ret (pe_callB call_len_seq (by rfl) (fr_len T) PySem.boot_len (pa_cons (pe_fld (pv 0) rfl) pa_nil))), ?_⟩
  refine ⟨_, rfl, h, _, dx, _, _, rfl, hh, cl_History T, na_History__births T, histFs_births, b, _, rfl, .inl (sqL_of hb), ?_⟩
  rw [List.length_map, o.born]
  exact k
/-! is_given, of a whole number -/
def sp_is_given (K : PySem.W.Frag) : Sp := fun vs H Q _ => ∃ (h : Addr) (cs : List Col) (chs : List Ch) (n : Int), vs = [.ref h, .int n] ∧ HistAt K H h cs chs ∧ HistOk cs chs ∧ Q (.bl (decide (0 ≤ n) && decide (n < (atC cs chs).2))) H
theorem ok_is_given (T : Tx K mg) : Callee P w K mg base CX0 2 "is_given" ["history", "value"] [] (sp_is_given K) := by
  have C1 := ok_is_whole (P := P) (w := w) (base := base) T
  obtain ⟨fdN, FN, bN⟩ := ok_Hist_numbers (P := P) (w := w) (base := base) T
  refine mkCallee (fd_is_given T) (mg_is_given T) sc_is_given (fun _ _ _ _ _ _ us hl => match us, hl with | [_, _], _ => rfl) (fun vs H Q E h => ?_) (fun cdv A outer s H vs Q E hr h => ?_)
  · obtain ⟨h, cs, chs, n, rfl, _⟩ := h
    rfl
  · obtain ⟨h, cs, chs, n, rfl, hh, o, k⟩ := h
    obtain ⟨dx, fs, hi, no⟩ := histMx "numbers" (by decide +kernel) hh
    refine ⟨_, pss_one (ps_ret (pe_and (pcall C1 hr (pa_cons (pv 1) pa_nil)) (pe_one (pe_chain op_le op_lt pe_int (pv 1) (pe_meth0 (pv 0) (cl_History T) (me_History_numbers T) FN hr bN .nil pass0))))), ?_⟩
    refine ⟨_, rfl, .int n, "int", rfl, .base (.int n), _, rfl, iteT ⟨_, rfl, _, _, rfl, rfl, _, rfl, ?_⟩⟩
    cases h1 : decide (0 ≤ n) with
    | false =>
      rw [h1] at k
      exact k
    | true =>
      rw [h1] at k
      exact ⟨_, rfl, h, dx, fs, rfl, hi, no, h, cs, chs, rfl, hh, o, _, _, rfl, rfl, k⟩
/-! heaps: all but one place; lists and dicts apart -/
/-- all but what stands at p is as it was -/
def But (p : Addr) (H H' : Hp) : Prop := ∀ b o, b ≠ p → H b = some o → H' b = some o
theorem But.refl (p : Addr) (H : Hp) : But p H H := fun _ _ _ e => e
theorem But.trans {p : Addr} {H H1 H2 : Hp} (a : But p H H1) (b : But p H1 H2) : But p H H2 := fun c o h e => b c o h (a c o h e)
theorem But.of {p : Addr} {H H' : Hp} (s : Same H H') : But p H H' := fun b o _ e => s b o e
theorem But.mut {p : Addr} {H : Hp} {o : HO} : But p H (upd H p o) := fun b u h e => by
  rw [upd_ne h]
  exact e
/-- nothing that stood ahead of p is touched -/
theorem But.same {p : Addr} {H0 H H' : Hp} (b : But p H H') (s : Same H0 H) (n : H0 p = none) : Same H0 H' := fun c o e => b c o (ne_of_none e n) (s c o e)
theorem npool0 {H : Hp} {p l : Addr} {o : HO} (h : H p = some o) (n : H l = none) : l ≠ p := fun e => by
  rw [e, h] at n
  cases n
theorem KeepNL.ofBut {H H' : Hp} {p : Addr} {zs : List V} (h : H p = some (.lst zs)) (b : But p H H') : KeepNL H H' := fun c o n e => b c o (fun q => by rw [q, h] at e; exact n zs (Option.some.inj e).symm) e
/-- all that is neither a list nor a dict is as it was -/
def KeepT (H H' : Hp) : Prop := ∀ b o, (∀ zs, o ≠ HO.lst zs) → (∀ kvs, o ≠ HO.dK kvs) → H b = some o → H' b = some o
theorem KeepT.of {H H' : Hp} (s : Same H H') : KeepT H H' := fun b o _ _ e => s b o e
theorem KeepT.trans {H H1 H2 : Hp} (a : KeepT H H1) (b : KeepT H1 H2) : KeepT H H2 := fun c o n m e => b c o n m (a c o n m e)
theorem KeepT.lst {H : Hp} {D : Addr} {zs : List V} {o : HO} (h : H D = some (.lst zs)) : KeepT H (upd H D o) := fun b o' n _ e => by
  rw [upd_ne (fun q => by rw [q, h] at e; exact n zs (Option.some.inj e).symm)]
  exact e
theorem KeepT.dct {H : Hp} {D : Addr} {kvs : List (Key × V)} {o : HO} (h : H D = some (.dK kvs)) : KeepT H (upd H D o) := fun b o' _ n e => by
  rw [upd_ne (fun q => by rw [q, h] at e; exact n kvs (Option.some.inj e).symm)]
  exact e
theorem KeepT.but {H H' : Hp} {p : Addr} {zs : List V} (h : H p = some (.lst zs)) (b : But p H H') : KeepT H H' := fun c o n _ e => b c o (fun q => by rw [q, h] at e; exact n zs (Option.some.inj e).symm) e
theorem sqT_keepT {K : PySem.W.Frag} {H H' : Hp} {a : Addr} {xs : List V} (s : KeepT H H') (h : SqT K H a xs) : SqT K H' a xs := by
  rcases h with (h | ⟨o, h⟩) | h
  · exact .inl (.inl (s _ _ (fun _ z => by cases z) (fun _ z => by cases z) h))
  · exact .inl (.inr ⟨o, s _ _ (fun _ z => by cases z) (fun _ z => by cases z) h⟩)
  · exact .inr h
theorem sqT_keepNL {K : PySem.W.Frag} {H H' : Hp} {a : Addr} {xs : List V} (s : KeepNL H H') (h : SqT K H a xs) : SqT K H' a xs := by
  rcases h with (h | ⟨o, h⟩) | h
  · exact .inl (.inl (s _ _ (fun _ z => by cases z) h))
  · exact .inl (.inr ⟨o, s _ _ (fun _ z => by cases z) h⟩)
  · exact .inr h
theorem pl_e1 {σ : L2.St} {H : Hp} {X : TE} {r : List V → Hp → VK → Prop} {Q : VK} (h : X σ H fun v H1 => r [v] H1 Q) : tCB r (tCons X tNil) σ H Q := h
theorem pl_op {σ : L2.St} {H : Hp} {ta tb : TE} {r : V → V → Hp → VK → Prop} {Q : VK} (h : ta σ H fun x H1 => tb σ H1 fun y H2 => r x y H2 Q) : tOp r ta tb σ H Q := h
theorem at_zero {xs : List V} {v : V} (h : xs[0]? = some v) : atI xs 0 = some v := by
  have hj := (List.getElem?_eq_some_iff.mp h).1
  unfold atI
  rw [ixN_ok (by omega) (by omega)]
  exact h
theorem refs_no {as : List Addr} {a b : Int} : ¬ as.map V.ref = [.int a, .int b] := fun e => by
  cases as with
  | nil => cases e
  | cons x xs => cases (List.cons.inj e).1
theorem lref_at {as : List Addr} {j : Nat} {a : Addr} (h : as[j]? = some a) : atI (as.map V.ref) ((j : Nat) : Int) = some (.ref a) := by
  have hj := (List.getElem?_eq_some_iff.mp h).1
  unfold atI
  rw [ixN_ok (by omega) (by rw [List.length_map]; omega)]
  show (as.map V.ref)[j]? = _
  rw [List.getElem?_map, h]
  rfl

/-! Histories that stay, histories that go on -/
theorem numb_placed {cs : List Col} (p : Placed cs) : numb cs = cs := by
  unfold numb
  refine List.ext_getElem? fun i => ?_
  rw [List.getElem?_mapIdx]
  cases e : cs[i]? with
  | none => rfl
  | some c =>
    have := p i c e
    cases c
    simp only at this
    subst this
    rfl
theorem Cols.keepNL {K : PySem.W.Frag} {H H' : Hp} (s : KeepNL H H') : ∀ {as : List Addr} {cs : List Col}, Cols K H as cs → Cols K H' as cs
  | _, _, .nil => .nil
  | _, _, .cons h t => .cons (by
      obtain ⟨dx, q⟩ := h
      exact ⟨dx, s _ _ (fun _ z => by cases z) q⟩) (t.keepNL s)
theorem Chs.keepNL {K : PySem.W.Frag} {H H' : Hp} (s : KeepNL H H') : ∀ {as : List Addr} {cs : List Ch}, Chs K H as cs → Chs K H' as cs
  | _, _, .nil => .nil
  | _, _, .cons h t => .cons (by
      rcases h with (q | ⟨o, q⟩) | q
      · exact .inl (.inl (s _ _ (fun _ z => by cases z) q))
      · exact .inl (.inr ⟨o, s _ _ (fun _ z => by cases z) q⟩)
      · exact .inr q) (t.keepNL s)
theorem Eds.keepP {K : PySem.W.Frag} {H H' : Hp} {p : Addr} {y0 y1 : Int} (hp : H p = some (.lst [.int y0, .int y1])) (bt : But p H H') : ∀ {es : List Addr} {eds : List (List Col)}, Eds K H es eds → Eds K H' es eds
  | _, _, .nil => .nil
  | _, _, .cons as h c t => .cons as (bt _ _ (fun e => by rw [e, hp] at h; exact refs_no (HO.lst.inj (Option.some.inj h)).symm) h) (c.keepNL (KeepNL.ofBut hp bt)) (t.keepP hp bt)
/-- draws leave a History alone that was made behind the pool -/
theorem HistN.keep {K : PySem.W.Frag} {H0 H H' : Hp} {h : Addr} {cs : List Col} {chs : List Ch} (s : Same H H') (q : HistN K H0 H h cs chs) : HistN K H0 H' h cs chs := by
  obtain ⟨dx, e, c, b, d, es, ts, ⟨h1, h2, h3, h4, h5, h6, h7⟩, qb, qd⟩ := q
  exact ⟨dx, e, c, b, d, es, ts, ⟨s _ _ h1, s _ _ h2, h3.keep s, s _ _ h4, h5.keep s, s _ _ h6, s _ _ h7⟩, qb, qd⟩
theorem HistN.but {K : PySem.W.Frag} {H0 H H' : Hp} {h p : Addr} {cs : List Col} {chs : List Ch} {o : HO} {y0 y1 : Int} (q : HistN K H0 H h cs chs) (h0 : H0 p = some o) (hp : H p = some (.lst [.int y0, .int y1])) (bt : But p H H') : HistN K H0 H' h cs chs := by
  obtain ⟨dx, e, c, b, d, es, ts, ⟨q1, q2, q3, q4, q5, q6, q7⟩, qb, qd⟩ := q
  have kn := KeepNL.ofBut hp bt
  refine ⟨dx, e, c, b, d, es, ts, ⟨kn _ _ (fun _ z => by cases z) q1, bt _ _ (fun z => ?_) q2, q3.keepP hp bt, bt _ _ (fun z => ?_) q4, q5.keepNL kn, bt _ _ (fun z => ?_) q6, bt _ _ (fun z => ?_) q7⟩, qb, qd⟩
  · rw [z, hp] at q2
    exact refs_no (HO.lst.inj (Option.some.inj q2)).symm
  · rw [z, hp] at q4
    exact refs_no (HO.lst.inj (Option.some.inj q4)).symm
  · rw [z, h0] at qb
    cases qb
  · rw [z, h0] at qd
    cases qd
theorem Chs.keepT {K : PySem.W.Frag} {H H' : Hp} (s : KeepT H H') : ∀ {as : List Addr} {cs : List Ch}, Chs K H as cs → Chs K H' as cs
  | _, _, .nil => .nil
  | _, _, .cons h t => .cons (sqT_keepT s h) (t.keepT s)
theorem Chs.app {K : PySem.W.Frag} {H : Hp} : ∀ {as bs : List Addr} {cs ds : List Ch}, Chs K H as cs → Chs K H bs ds → Chs K H (as ++ bs) (cs ++ ds)
  | _, _, _, _, .nil, h => h
  | _, _, _, _, .cons h t, q => .cons h (t.app q)
theorem edsTo_app {cs : List Col} {chs : List Ch} {ch : Ch} : edsTo cs (chs ++ [ch]) ((chs ++ [ch]).length + 1) = edsTo cs chs (chs.length + 1) ++ [behind (atC cs chs).1 ch (atC cs chs).2] := by
  have e : (chs ++ [ch]).length = chs.length + 1 := by rw [List.length_append]; rfl
  rw [e, edsTo_succ]
  refine congr (congrArg _ ?_) ?_
  · unfold edsTo
    refine List.map_congr_left fun i hi => ?_
    rw [List.mem_range] at hi
    rw [List.take_append_of_le_length (by omega)]
  · rw [List.take_of_length_le (by omega)]
    show [(List.foldl stepC (cs, (cs.length : Int)) (chs ++ [ch])).1] = _
    rw [List.foldl_append]
    rfl
theorem atC_app {cs : List Col} {chs : List Ch} {ch : Ch} : (atC cs (chs ++ [ch])).2 = numThen ch (atC cs chs).2 := by
  show (List.foldl stepC (cs, (cs.length : Int)) (chs ++ [ch])).2 = _
  rw [List.foldl_append]
  rfl
theorem Fits.app {cs : List Col} {chs : List Ch} {ch : Ch} (f : Fits cs chs) (h1 : ch.fits = true) (h2 : hindV (atC cs chs).1 ch = .non) : Fits cs (chs ++ [ch]) := by
  intro i c hc
  by_cases hi : i < chs.length
  · rw [List.getElem?_append_left hi] at hc
    rw [List.take_append_of_le_length (by omega)]
    exact f i c hc
  · have e : i = chs.length := by
      have := (List.getElem?_eq_some_iff.mp hc).1
      rw [List.length_append] at this
      have q : [ch].length = 1 := rfl
      omega
    subst e
    rw [List.getElem?_append_right (Nat.le_refl _), Nat.sub_self] at hc
    obtain rfl := Option.some.inj hc
    rw [List.take_append_of_le_length (Nat.le_refl _), List.take_length]
    exact ⟨h1, h2⟩
def Asc (cs : List Col) : Prop := (cs.map (·.num)).Pairwise (· < ·)
theorem sorted_eq : ∀ {xs ys : List Int}, ys.Perm xs → ys.Pairwise (· ≤ ·) → xs.Pairwise (· < ·) → ys = xs
  | [], ys, p, _, _ => p.eq_nil
  | x :: xs, [], p, _, _ => by have := p.length_eq; simp at this
  | x :: xs, y :: ys, p, s, a => by
    rw [List.pairwise_cons] at s a
    have h1 : y ∈ x :: xs := p.mem_iff.mp List.mem_cons_self
    have h2 : x ∈ y :: ys := p.mem_iff.mpr List.mem_cons_self
    have l1 : y ≤ x := by
      rcases List.mem_cons.mp h2 with e | h
      · omega
      · exact s.1 x h
    have l2 : x ≤ y := by
      rcases List.mem_cons.mp h1 with e | h
      · omega
      · have := a.1 y h
        omega
    obtain rfl : y = x := by omega
    rw [sorted_eq p.cons_inv s.2 a.2]
theorem asc_first {cs : List Col} (p : Placed cs) : Asc cs := by
  unfold Asc
  rw [List.pairwise_map, List.pairwise_iff_getElem]
  intro i j hi hj hij
  have h1 := p i cs[i] (List.getElem?_eq_getElem hi)
  have h2 := p j cs[j] (List.getElem?_eq_getElem hj)
  omega
theorem asc_map {cs : List Col} {f : Col → Col} (a : Asc cs) (h : ∀ c ∈ cs, (f c).num = c.num) : Asc (cs.map f) := by
  have e : (cs.map f).map (·.num) = cs.map (·.num) := by
    rw [List.map_map]
    exact List.map_congr_left h
  unfold Asc
  rw [e]
  exact a
theorem asc_step {cs : List Col} {n : Int} {ch : Ch} (g : Good cs n) (a : Asc cs) : Asc (behind cs ch n) := by
  have hc : ∀ c : Col, (chgC c ch).num = c.num := fun c => by cases ch <;> rfl
  have hm : ∀ c ∈ cs, (if c.name = ch.name then chgC c ch else c).num = c.num := fun c _ => by
    split
    · exact hc c
    · rfl
  cases ch with
  | add nm gr d =>
    have a' : (cs.map (·.num)).Pairwise (· < ·) := a
    show ((cs ++ [(⟨nm, gr, d, n⟩ : Col)]).map (·.num)).Pairwise (· < ·)
    rw [List.map_append, List.pairwise_append]
    refine ⟨a', by simp, fun x hx y hy => ?_⟩
    obtain ⟨c, hc1, rfl⟩ := List.mem_map.mp hx
    rw [List.map_cons, List.map_nil, List.mem_singleton] at hy
    rw [hy]
    exact (g.ok c hc1).2
  | drop nm =>
    have a' : (cs.map (·.num)).Pairwise (· < ·) := a
    exact a'.sublist (List.filter_sublist.map _)
  | rename _ _ => exact asc_map a hm
  | dflt _ _ => exact asc_map a hm
  | great _ _ _ => exact asc_map a hm
  | fill _ _ => exact asc_map a hm
theorem asc_at {cs : List Col} {chs : List Ch} (o : HistOk cs chs) : ∀ i, i ≤ chs.length → Asc (atC cs (chs.take i)).1
  | 0, _ => asc_first o.pl
  | i + 1, h => by
    have e : chs[i]? = some chs[i] := List.getElem?_eq_getElem (by omega)
    rw [atC_snoc e]
    exact asc_step (o.f.good o.g i (by omega)) (asc_at o i (by omega))
theorem atC_le {cs : List Col} {chs : List Ch} : ∀ i, i ≤ chs.length → (atC cs (chs.take i)).2 ≤ (cs.length : Int) + i
  | 0, _ => by show (cs.length : Int) ≤ _; omega
  | i + 1, h => by
    have e : chs[i]? = some chs[i] := List.getElem?_eq_getElem (by omega)
    have ih := atC_le (cs := cs) (chs := chs) i (by omega)
    rw [atC_snoc e]
    show numThen chs[i] (atC cs (chs.take i)).2 ≤ _
    by_cases k : chs[i].kind = "add"
    · rw [kind_add k]
      omega
    · rw [kind_noadd k]
      omega

/-! numbers that ascend are unlike -/
theorem asc_lt {cm : List Col} (a : Asc cm) {i j : Nat} {c d : Col} (hi : cm[i]? = some c) (hj : cm[j]? = some d) (h : i < j) : c.num < d.num := by
  unfold Asc at a
  rw [List.pairwise_iff_getElem] at a
  obtain ⟨li, e1⟩ := List.getElem?_eq_some_iff.mp hi
  obtain ⟨lj, e2⟩ := List.getElem?_eq_some_iff.mp hj
  have := a i j (by rw [List.length_map]; exact li) (by rw [List.length_map]; exact lj) h
  rw [List.getElem_map, List.getElem_map, e1, e2] at this
  exact this
theorem asc_uniq {cm : List Col} (a : Asc cm) {i j : Nat} {c d : Col} (hi : cm[i]? = some c) (hj : cm[j]? = some d) (h : c.num = d.num) : i = j := by
  rcases Nat.lt_trichotomy i j with q | q | q
  · have := asc_lt a hi hj q
    omega
  · exact q
  · have := asc_lt a hj hi q
    omega

/-! the word that stands for no value -/
def isMis : V → Bool
  | .str z => decide (z = "missing")
  | _ => false

/-! rows of the columns -/
theorem any_no {κ : Type} [DecidableEq κ] {acc : List (κ × V)} {k : κ} (h : k ∉ acc.map (·.1)) : (acc.any fun kv => decide (kv.1 = k)) = false := by
  rw [Bool.eq_false_iff]
  intro q
  rw [List.any_eq_true] at q
  obtain ⟨kv, hm, e⟩ := q
  exact h (List.mem_map.mpr ⟨kv, hm, of_decide_eq_true e⟩)
theorem merge_new : ∀ (kvs acc : List (Key × V)), ((acc ++ kvs).map (·.1)).Nodup → mergeK acc kvs = acc ++ kvs
  | [], acc, _ => by rw [List.append_nil]; rfl
  | kv :: kvs, acc, nd => by
    have h1 : kv.1 ∉ acc.map (·.1) := fun hm => by
      rw [List.map_append, List.nodup_append] at nd
      exact nd.2.2 _ hm _ (List.mem_map.mpr ⟨kv, List.mem_cons_self, rfl⟩) rfl
    have e : putK acc kv.1 kv.2 = acc ++ [kv] := by
      unfold putK
      rw [any_no h1, if_neg (by decide)]
    show mergeK (putK acc kv.1 kv.2) kvs = _
    rw [e, merge_new kvs (acc ++ [kv]) (by rw [List.append_assoc]; exact nd), List.append_assoc]
    rfl
theorem paired_of {R : Addr → Key × V → Prop} : ∀ {ts : List Addr} {kvs : List (Key × V)}, ts.length = kvs.length → (∀ (j : Nat) t kv, ts[j]? = some t → kvs[j]? = some kv → R t kv) → Paired R ts kvs
  | [], [], _, _ => .nil
  | [], _ :: _, h, _ => by cases h
  | _ :: _, [], h, _ => by cases h
  | t :: ts, kv :: kvs, h, f => .cons (f 0 t kv rfl rfl) (paired_of (Nat.succ.inj h) fun j t' kv' h1 h2 => f (j + 1) t' kv' (by simpa using h1) (by simpa using h2))
/-- a law's row of the columns cs -/
def RowD (cs : List Col) (kvs : List (Key × V)) : Prop := kvs.length = cs.length ∧ ∀ (j : Nat) (c : Col), cs[j]? = some c → ∃ v, kvs[j]? = some (Sum.inr c.name, v) ∧ isIn c.top v = true
theorem RowD.keys {cs : List Col} {kvs : List (Key × V)} (r : RowD cs kvs) : kvs.map (·.1) = (cs.map (·.name)).map Sum.inr := by
  refine List.ext_getElem? fun j => ?_
  rw [List.getElem?_map, List.getElem?_map, List.getElem?_map]
  cases e : cs[j]? with
  | none =>
    have : kvs[j]? = none := List.getElem?_eq_none (by have := List.getElem?_eq_none_iff.mp e; rw [r.1]; exact this)
    rw [this]
    rfl
  | some c =>
    obtain ⟨v, h1, _⟩ := r.2 j c e
    rw [h1]
    rfl
theorem nodup_inr {ns : List Str} (h : ns.Nodup) : (ns.map (Sum.inr : Str → Key)).Nodup := by
  unfold List.Nodup at *
  rw [List.pairwise_map]
  exact h.imp fun e q => e (Sum.inr.inj q)
theorem valV_at {k : Key} {v : V} : ∀ {kvs : List (Key × V)} {j : Nat}, (kvs.map (·.1)).Nodup → kvs[j]? = some (k, v) → valV kvs k = some v
  | [], _, _, h => by simp at h
  | kv :: kvs, 0, _, h => by
    obtain rfl : kv = (k, v) := by simpa using h
    exact valV_pos rfl
  | kv :: kvs, j + 1, nd, h => by
    rw [List.map_cons, List.nodup_cons] at nd
    have h' : kvs[j]? = some (k, v) := by simpa using h
    rw [valV_neg (fun e => nd.1 (List.mem_map.mpr ⟨(k, v), List.mem_of_getElem? h', e.symm⟩))]
    exact valV_at nd.2 h'

/-! the row behind a change, as data -/
/-! changed_row, of a row of the columns and a change that can be done to them -/
/-- what a column gives to the row behind -/
def stepR (ch : Ch) (c : Col) (v : V) (acc : List (Key × V)) : List (Key × V) := match ch with
  | .drop n => if c.name = n then acc else putK acc (Sum.inr c.name) v
  | .rename n m => if c.name = n then putK acc (Sum.inr m) v else putK acc (Sum.inr c.name) v
  | _ => putK acc (Sum.inr c.name) v
/-- the row behind, column by column; none where a value is barred -/
def rowGo (ch : Ch) : List Col → List V → List (Key × V) → Option (List (Key × V))
  | c :: cs, v :: vs, acc => if isMis (chgV c.name ch v) = true then none else rowGo ch cs vs (stepR ch c (chgV c.name ch v) acc)
  | _, _, acc => some acc
def endR (ch : Ch) (acc : List (Key × V)) : List (Key × V) := match ch with
  | .add n _ d => putK acc (Sum.inr n) d
  | _ => acc
def rowThen (cs : List Col) (ch : Ch) (kvs : List (Key × V)) : Option (List (Key × V)) := (rowGo ch cs (kvs.map (·.2)) []).map (endR ch)
/-! the row behind is a row of the columns behind -/
inductive RowP : List Col → List (Key × V) → Prop
  | nil : RowP [] []
  | cons {c : Col} {cs : List Col} {v : V} {kvs : List (Key × V)} : isIn c.top v = true → RowP cs kvs → RowP (c :: cs) ((Sum.inr c.name, v) :: kvs)
theorem RowP.of : ∀ {cs : List Col} {kvs : List (Key × V)}, RowD cs kvs → RowP cs kvs
  | [], [], _ => .nil
  | [], _ :: _, r => by cases r.1
  | _ :: _, [], r => by cases r.1
  | c :: cs, kv :: kvs, r => by
    obtain ⟨v, h1, h2⟩ := r.2 0 c rfl
    obtain rfl : kv = (Sum.inr c.name, v) := Option.some.inj h1
    exact .cons h2 (RowP.of ⟨Nat.succ.inj r.1, fun j c' hc => by
      obtain ⟨v', h3, h4⟩ := r.2 (j + 1) c' (by simpa using hc)
      exact ⟨v', by simpa using h3, h4⟩⟩)
theorem RowP.row : ∀ {cs : List Col} {kvs : List (Key × V)}, RowP cs kvs → RowD cs kvs
  | _, _, .nil => ⟨rfl, fun j c h => by simp at h⟩
  | _, _, .cons (v := v) h t => by
    have ih := t.row
    refine ⟨congrArg Nat.succ ih.1, fun j c' hc => ?_⟩
    cases j with
    | zero =>
      obtain rfl := Option.some.inj hc
      exact ⟨v, rfl, h⟩
    | succ j =>
      obtain ⟨v', h1, h2⟩ := ih.2 j c' (by simpa using hc)
      exact ⟨v', by simpa using h1, h2⟩
theorem RowP.app : ∀ {cs ds : List Col} {kvs lvs : List (Key × V)}, RowP cs kvs → RowP ds lvs → RowP (cs ++ ds) (kvs ++ lvs)
  | _, _, _, _, .nil, h => h
  | _, _, _, _, .cons h t, q => .cons h (t.app q)
/-- what becomes of one column -/
def colR (ch : Ch) (c : Col) : List Col := match ch with
  | .add _ _ _ => [c]
  | .drop n => if c.name = n then [] else [c]
  | ch => [if c.name = ch.name then chgC c ch else c]
def newR (ch : Ch) (num : Int) : List Col := match ch with
  | .add n g d => [⟨n, g, d, num⟩]
  | _ => []
theorem flat_one {f : Col → Col} : ∀ cs : List Col, cs.flatMap (fun c => [f c]) = cs.map f
  | [] => rfl
  | c :: cs => by rw [List.flatMap_cons, flat_one cs]; rfl
theorem flat_drop {n : Str} : ∀ cs : List Col, cs.flatMap (fun c => if c.name = n then [] else [c]) = cs.filter (fun c => !decide (c.name = n))
  | [] => rfl
  | c :: cs => by
    rw [List.flatMap_cons, flat_drop cs, List.filter_cons]
    by_cases h : c.name = n
    · rw [if_pos h, if_neg (by rw [decide_eq_true h]; decide)]
      rfl
    · rw [if_neg h, if_pos (by rw [decide_eq_false h]; rfl)]
      rfl
theorem behind_flat (cs : List Col) (ch : Ch) (num : Int) : behind cs ch num = cs.flatMap (colR ch) ++ newR ch num := by
  cases ch with
  | add n g d =>
    show cs ++ _ = cs.flatMap (fun c => [c]) ++ _
    rw [flat_one (f := fun c => c), List.map_id']
    rfl
  | drop n =>
    show cs.filter _ = cs.flatMap (fun c => if c.name = n then [] else [c]) ++ []
    rw [flat_drop, List.append_nil]
  | rename n m => exact (by show cs.map _ = cs.flatMap (fun c => [_]) ++ []; rw [flat_one, List.append_nil])
  | dflt n v => exact (by show cs.map _ = cs.flatMap (fun c => [_]) ++ []; rw [flat_one, List.append_nil])
  | great n g way => exact (by show cs.map _ = cs.flatMap (fun c => [_]) ++ []; rw [flat_one, List.append_nil])
  | fill n i => exact (by show cs.map _ = cs.flatMap (fun c => [_]) ++ []; rw [flat_one, List.append_nil])
def giveR (ch : Ch) (c : Col) (w : V) : List (Key × V) := (colR ch c).map fun c' => (Sum.inr c'.name, w)
theorem step_give (ch : Ch) (c : Col) (w : V) (acc : List (Key × V)) : stepR ch c w acc = mergeK acc (giveR ch c w) := by
  cases ch with
  | add n g d => rfl
  | drop n =>
    show (if c.name = n then acc else putK acc (Sum.inr c.name) w) = mergeK acc ((if c.name = n then [] else [c]).map _)
    by_cases h : c.name = n
    · rw [if_pos h, if_pos h]
      rfl
    · rw [if_neg h, if_neg h]
      rfl
  | rename n m =>
    show (if c.name = n then putK acc (Sum.inr m) w else putK acc (Sum.inr c.name) w) = mergeK acc ([if c.name = n then ({ c with name := m } : Col) else c].map _)
    by_cases h : c.name = n
    · rw [if_pos h, if_pos h]
      rfl
    · rw [if_neg h, if_neg h]
      rfl
  | dflt n v =>
    show putK acc (Sum.inr c.name) w = mergeK acc ([if c.name = n then chgC c (.dflt n v) else c].map _)
    by_cases h : c.name = n
    · rw [if_pos h]
      rfl
    · rw [if_neg h]
      rfl
  | great n g way =>
    show putK acc (Sum.inr c.name) w = mergeK acc ([if c.name = n then chgC c (.great n g way) else c].map _)
    by_cases h : c.name = n
    · rw [if_pos h]
      rfl
    · rw [if_neg h]
      rfl
  | fill n i =>
    show putK acc (Sum.inr c.name) w = mergeK acc ([if c.name = n then chgC c (.fill n i) else c].map _)
    by_cases h : c.name = n
    · rw [if_pos h]
      rfl
    · rw [if_neg h]
      rfl
theorem give_row {ch : Ch} {c : Col} {w : V} : ∀ {ds : List Col}, (∀ c' ∈ ds, isIn c'.top w = true) → RowP ds (ds.map fun c' => (Sum.inr c'.name, w))
  | [], _ => .nil
  | d :: ds, h => .cons (h d List.mem_cons_self) (give_row (ch := ch) (c := c) fun c' hc => h c' (List.mem_cons_of_mem _ hc))
theorem go_row {ch : Ch} : ∀ {cs : List Col} {kvs : List (Key × V)}, RowP cs kvs → (∀ c ∈ cs, ∀ v, isIn c.top v = true → isMis (chgV c.name ch v) = false → ∀ c' ∈ colR ch c, isIn c'.top (chgV c.name ch v) = true) →
    ∀ acc acc', rowGo ch cs (kvs.map (·.2)) acc = some acc' → ∃ more, RowP (cs.flatMap (colR ch)) more ∧ acc' = mergeK acc more
  | _, _, .nil, _, acc, acc', h => ⟨[], .nil, (Option.some.inj h).symm⟩
  | _, _, .cons (c := c) (cs := cs) (v := v) (kvs := kvs) hv t, k, acc, acc', h => by
    have h : (if isMis (chgV c.name ch v) = true then none else rowGo ch cs (kvs.map (·.2)) (stepR ch c (chgV c.name ch v) acc)) = some acc' := h
    cases hm : isMis (chgV c.name ch v) with
    | true =>
      rw [hm, if_pos rfl] at h
      cases h
    | false =>
      rw [hm, if_neg (by decide)] at h
      obtain ⟨more, h1, h2⟩ := go_row t (fun c' hc => k c' (List.mem_cons_of_mem _ hc)) _ _ h
      refine ⟨giveR ch c (chgV c.name ch v) ++ more, ?_, ?_⟩
      · rw [List.flatMap_cons]
        exact (give_row (ch := ch) (c := c) (k c List.mem_cons_self v hv hm)).app h1
      · rw [h2, step_give]
        show List.foldl _ (List.foldl _ acc _) more = List.foldl _ acc _
        rw [List.foldl_append]
theorem chg_in {cs : List Col} {ch : Ch} {c : Col} {v : V} (nms : (cs.map (·.name)).Nodup) (f : ch.fits = true) (hz : hindV cs ch = .non) (hc : c ∈ cs) (h : isIn c.top v = true) (m : isMis (chgV c.name ch v) = false) : ∀ c' ∈ colR ch c, isIn c'.top (chgV c.name ch v) = true := by
  have whole : ∀ {j g : Int}, isIn g (.int j) = true ↔ 0 ≤ j ∧ j ≤ g := fun {j g} => by
    show (decide (0 ≤ j) && decide (j ≤ g)) = true ↔ _
    rw [Bool.and_eq_true, decide_eq_true_iff, decide_eq_true_iff]
  intro c' hc'
  by_cases hn : c.name = ch.name
  · have hfind : cs.find? (isN ch.name) = some c := find_uniq nms hc hn
    unfold chgV at m ⊢
    rw [if_pos hn.symm] at m ⊢
    cases ch with
    | add n g d =>
      rw [List.mem_singleton.mp hc']
      exact h
    | drop n =>
      have : c' ∈ (if c.name = n then [] else [c]) := hc'
      rw [if_pos (show c.name = n from hn)] at this
      cases this
    | rename n k =>
      have e : c' = (if c.name = (Ch.rename n k).name then chgC c (.rename n k) else c) := List.mem_singleton.mp hc'
      rw [if_pos hn] at e
      rw [e]
      exact h
    | dflt n x =>
      have e : c' = (if c.name = (Ch.dflt n x).name then chgC c (.dflt n x) else c) := List.mem_singleton.mp hc'
      rw [if_pos hn] at e
      rw [e]
      exact h
    | great n g way =>
      have e : c' = (if c.name = (Ch.great n g way).name then chgC c (.great n g way) else c) := List.mem_singleton.mp hc'
      rw [if_pos hn] at e
      rw [e]
      have f : (isNm (.str n) && (isGr (.int g) && isWy way)) = true := f
      rw [Bool.and_eq_true, Bool.and_eq_true] at f
      have hg : 1 ≤ g := of_decide_eq_true (Bool.and_eq_true_iff.mp f.2.1).1
      show isIn g _ = true
      cases v with
      | non => rfl
      | int j =>
        have hj := whole.mp h
        have m : isMis (if g < j then abv g way else .int j) = false := m
        show isIn g (if g < j then abv g way else .int j) = true
        by_cases q : g < j
        · rw [if_pos q] at m ⊢
          unfold abv at m ⊢
          split
          · exact whole.mpr ⟨by omega, Int.le_refl _⟩
          · rename_i q1
            rw [if_neg q1] at m
            split
            · rfl
            · rename_i q2
              rw [if_neg q2] at m
              exact absurd m (by decide +kernel)
        · rw [if_neg q]
          exact whole.mpr ⟨hj.1, by omega⟩
      | _ => cases h
    | fill n i =>
      have e : c' = (if c.name = (Ch.fill n i).name then chgC c (.fill n i) else c) := List.mem_singleton.mp hc'
      rw [if_pos hn] at e
      rw [e]
      have hf : cs.find? (isN n) = some c := hfind
      have hz : hindV cs (.fill n i) = .non := hz
      simp only [hindV, hf] at hz
      show isIn c.top _ = true
      cases v with
      | non =>
        show isIn c.top (.int i) = true
        by_cases q : isIn c.top (.int i) = true
        · exact q
        · rw [if_neg q] at hz
          cases hz
      | int j => exact h
      | _ => cases h
  · unfold chgV
    rw [if_neg (fun e => hn e.symm)]
    have e : c' = c := by
      cases ch with
      | add n g d => exact List.mem_singleton.mp hc'
      | drop n =>
        have : c' ∈ (if c.name = n then [] else [c]) := hc'
        rw [if_neg (show ¬ c.name = n from hn)] at this
        exact List.mem_singleton.mp this
      | rename n k =>
        have e : c' = (if c.name = (Ch.rename n k).name then chgC c (.rename n k) else c) := List.mem_singleton.mp hc'
        rw [if_neg hn] at e
        exact e
      | dflt n x =>
        have e : c' = (if c.name = (Ch.dflt n x).name then chgC c (.dflt n x) else c) := List.mem_singleton.mp hc'
        rw [if_neg hn] at e
        exact e
      | great n g way =>
        have e : c' = (if c.name = (Ch.great n g way).name then chgC c (.great n g way) else c) := List.mem_singleton.mp hc'
        rw [if_neg hn] at e
        exact e
      | fill n i =>
        have e : c' = (if c.name = (Ch.fill n i).name then chgC c (.fill n i) else c) := List.mem_singleton.mp hc'
        rw [if_neg hn] at e
        exact e
    rw [e]
    exact h
def lastR (ch : Ch) : List (Key × V) := match ch with
  | .add n _ d => [(Sum.inr n, d)]
  | _ => []
/-- a row that a change does not bar is a row of the columns behind -/
theorem rowThen_row {cs : List Col} {ch : Ch} {num : Int} {kvs kvs' : List (Key × V)} (g : Good cs num) (f : ch.fits = true) (hz : hindV cs ch = .non) (r : RowD cs kvs) (h : rowThen cs ch kvs = some kvs') : RowD (behind cs ch num) kvs' := by
  unfold rowThen at h
  cases e : rowGo ch cs (kvs.map (·.2)) [] with
  | none =>
    rw [e] at h
    cases h
  | some acc =>
    rw [e] at h
    obtain rfl := Option.some.inj h
    obtain ⟨more, h1, rfl⟩ := go_row (RowP.of r) (fun c hc v hv hm => chg_in g.names f hz hc hv hm) [] acc e
    have h2 : RowP (behind cs ch num) (more ++ lastR ch) := by
      rw [behind_flat]
      refine h1.app ?_
      cases ch with
      | add n gr d =>
        refine .cons ?_ .nil
        have hz : addHind cs n gr d = .non := hz
        unfold addHind at hz
        split at hz
        · cases hz
        · split at hz
          · cases hz
          · split at hz
            · assumption
            · cases hz
      | _ => exact .nil
    have e2 : endR ch (mergeK [] more) = mergeK [] (more ++ lastR ch) := by
      cases ch with
      | add n gr d =>
        show putK (mergeK [] more) (Sum.inr n) d = List.foldl _ [] (more ++ [(Sum.inr n, d)])
        rw [List.foldl_append]
        rfl
      | _ => exact (by show mergeK [] more = mergeK [] (more ++ []); rw [List.append_nil])
    show RowD _ (endR ch (mergeK [] more))
    rw [e2]
    have e3 := merge_new (more ++ lastR ch) [] (by rw [List.nil_append, h2.row.keys]; exact nodup_inr (g.step f hz).names)
    rw [List.nil_append] at e3
    rw [e3]
    exact h2.row
theorem ty_chg {K : PySem.W.Frag} {n : Str} {ch : Ch} {v : V} (h : valOk v = true) : ∃ t, ∀ H : Hp, TyX K H (chgV n ch v) (.type t) := by
  have hs := chg_scal (n := n) (c := ch) h
  cases e : chgV n ch v with
  | non => exact ⟨_, fun _ => .base .non⟩
  | int i => exact ⟨_, fun _ => .base (.int i)⟩
  | str z => exact ⟨_, fun _ => .base (.str z)⟩
  | bl b => exact ⟨_, fun _ => .base (.bl b)⟩
  | flt x => exact ⟨_, fun _ => .base (.flt x)⟩
  | byt b => exact ⟨_, fun _ => .byt b⟩
  | ref a => rw [e] at hs; cases hs
  | ty t => rw [e] at hs; cases hs
theorem step_len (ch : Ch) (c : Col) (v : V) (acc : List (Key × V)) : (stepR ch c v acc).length ≤ acc.length + 1 := by
  have h : ∀ k : Key, (putK acc k v).length ≤ acc.length + 1 := fun k => by
    unfold putK
    split
    · rw [List.length_map]
      omega
    · rw [List.length_append]
      exact Nat.le_refl _
  unfold stepR
  repeat (first | exact h _ | exact Nat.le_succ _ | split)
theorem go_at {ch : Ch} {cs : List Col} {vs : List V} {i : Nat} {c : Col} {v : V} {acc : List (Key × V)} (hc : cs[i]? = some c) (hv : vs[i]? = some v) : rowGo ch (cs.drop i) (vs.drop i) acc = if isMis (chgV c.name ch v) = true then none else rowGo ch (cs.drop (i + 1)) (vs.drop (i + 1)) (stepR ch c (chgV c.name ch v) acc) := by
  obtain ⟨hi, e1⟩ := List.getElem?_eq_some_iff.mp hc
  obtain ⟨hj, e2⟩ := List.getElem?_eq_some_iff.mp hv
  rw [List.drop_eq_getElem_cons hi, List.drop_eq_getElem_cons hj, e1, e2]
  rfl

/-- values of the columns, by their numbers -/
def FitE (cs : List Col) (es : List (Int × V)) : Prop := es.length = cs.length ∧ ∀ (j : Nat) (c : Col), cs[j]? = some c → ∃ v, es[j]? = some (c.num, v) ∧ isIn c.top v = true

/-! a row followed, as data -/
/-! trail: a stored row, edition by edition -/
/-- what a plain table has that was written so -/
def rowE (cs : List Col) (es : List (Int × V)) : List (Key × V) := cs.mapIdx fun j c => (Sum.inr c.name, match es[j]? with
  | some e => e.2
  | none => V.non)
theorem rowE_len {cs : List Col} {es : List (Int × V)} : (rowE cs es).length = cs.length := List.length_mapIdx
theorem rowE_at {cs : List Col} {es : List (Int × V)} (f : FitE cs es) {j : Nat} {c : Col} (h : cs[j]? = some c) : ∃ v, (rowE cs es)[j]? = some (Sum.inr c.name, v) ∧ es[j]? = some (c.num, v) ∧ isIn c.top v = true := by
  obtain ⟨v, h1, h2⟩ := f.2 j c h
  refine ⟨v, ?_, h1, h2⟩
  unfold rowE
  rw [List.getElem?_mapIdx, h]
  show some (Sum.inr c.name, match es[j]? with | some e => e.2 | none => V.non) = _
  rw [h1]
theorem rowE_row {cs : List Col} {es : List (Int × V)} (f : FitE cs es) : RowD cs (rowE cs es) := ⟨rowE_len, fun j c h => by
  obtain ⟨v, h1, _, h2⟩ := rowE_at f h
  exact ⟨v, h1, h2⟩⟩
/-- the row behind j changes more, if nothing bars it -/
def folTo (cs : List Col) (chs : List Ch) (i : Nat) (kvs : List (Key × V)) : Nat → Option (List (Key × V))
  | 0 => some kvs
  | j + 1 => match folTo cs chs i kvs j, chs[i + j]? with
    | some r, some ch => rowThen (atC cs (chs.take (i + j))).1 ch r
    | _, _ => none
theorem folTo_succ {cs : List Col} {chs : List Ch} {i j : Nat} {kvs r : List (Key × V)} {ch : Ch} (h1 : folTo cs chs i kvs j = some r) (h2 : chs[i + j]? = some ch) : folTo cs chs i kvs (j + 1) = rowThen (atC cs (chs.take (i + j))).1 ch r := by
  show (match folTo cs chs i kvs j, chs[i + j]? with
    | some r, some ch => rowThen (atC cs (chs.take (i + j))).1 ch r
    | _, _ => none) = _
  rw [h1, h2]
theorem folTo_row {cs : List Col} {chs : List Ch} {i : Nat} {kvs : List (Key × V)} (o : HistOk cs chs) (r0 : RowD (atC cs (chs.take i)).1 kvs) : ∀ j, i + j ≤ chs.length → ∀ r, folTo cs chs i kvs j = some r → RowD (atC cs (chs.take (i + j))).1 r
  | 0, _, r, e => by
    obtain rfl := Option.some.inj e
    exact r0
  | j + 1, h, r, e => by
    cases h1 : folTo cs chs i kvs j with
    | none =>
      have : folTo cs chs i kvs (j + 1) = none := by
        show (match folTo cs chs i kvs j, chs[i + j]? with
          | some r, some ch => rowThen (atC cs (chs.take (i + j))).1 ch r
          | _, _ => none) = _
        rw [h1]
      rw [this] at e
      cases e
    | some r1 =>
      have h2 : chs[i + j]? = some chs[i + j] := List.getElem?_eq_getElem (by omega)
      rw [folTo_succ h1 h2] at e
      obtain ⟨ft, hz⟩ := o.f (i + j) _ h2
      have := rowThen_row (o.f.good o.g (i + j) (by omega)) ft hz (folTo_row o r0 j (by omega) r1 h1) e
      rw [show i + (j + 1) = i + j + 1 from rfl, atC_snoc h2]
      exact this
/-- the rows stand at the addresses, one behind the other -/
def Fol (cs : List Col) (chs : List Ch) (i : Nat) (kvs : List (Key × V)) (H : Hp) (ds : List Addr) : Prop := ∀ (t : Nat) (d : Addr), ds[t]? = some d → ∃ r, folTo cs chs i kvs t = some r ∧ H d = some (.dK r)
theorem Fol.keep {cs : List Col} {chs : List Ch} {i : Nat} {kvs : List (Key × V)} {H H' : Hp} {ds : List Addr} (s : Same H H') (f : Fol cs chs i kvs H ds) : Fol cs chs i kvs H' ds := fun t d h => by
  obtain ⟨r, h1, h2⟩ := f t d h
  exact ⟨r, h1, s _ _ h2⟩

/-! rows that are put together of two, number by number -/
/-- the last part of a change -/
def lastV : Ch → V
  | .add _ _ d => d
  | .drop n => .str n
  | .rename _ m => .str m
  | .dflt _ v => v
  | .great _ _ way => .str way
  | .fill _ i => .int i
theorem last_at (ch : Ch) : atI ch.toV (-1) = some (lastV ch) := by cases ch <;> rfl
theorem last_scal {ch : Ch} (f : ch.fits = true) : scal (lastV ch) (.str "refuse") = true := by
  cases ch with
  | add n g d =>
    have h : isVal d = true := (Bool.and_eq_true_iff.mp (Bool.and_eq_true_iff.mp f).2).2
    cases d with
    | non => rfl
    | int _ => rfl
    | _ => cases h
  | dflt n d =>
    have h : isVal d = true := (Bool.and_eq_true_iff.mp f).2
    cases d with
    | non => rfl
    | int _ => rfl
    | _ => cases h
  | _ => rfl
def noRef (ch : Ch) : Bool := !decide (lastV ch = .str "refuse")
theorem noRef_free {ch : Ch} {n : Str} {g : Int} {v : V} (f : ch.fits = true) (nr : noRef ch = true) (h : isIn g v = true) : isMis (chgV n ch v) = false := by
  have hv : isMis v = false := by
    cases v with
    | str _ => cases h
    | _ => rfl
  unfold chgV
  split
  · cases ch with
    | great m g' way =>
      cases v with
      | int j =>
        show isMis (if g' < j then abv g' way else .int j) = false
        split
        · have nr : (!decide (V.str way = .str "refuse")) = true := nr
          have hw : isWy way = true := (Bool.and_eq_true_iff.mp (Bool.and_eq_true_iff.mp f).2).2
          unfold abv
          split
          · rfl
          · split
            · rfl
            · rename_i h1 h2
              exfalso
              unfold isWy at hw
              rw [decide_eq_false h1, decide_eq_false h2, Bool.false_or, Bool.false_or] at hw
              rw [of_decide_eq_true hw, decide_eq_true rfl] at nr
              cases nr
        · rfl
      | non => rfl
      | _ => cases h
    | fill m i =>
      cases v with
      | non => rfl
      | int _ => rfl
      | _ => cases h
    | _ => exact hv
  · exact hv
/-- what the columns give to the row behind -/
def giveL (ch : Ch) : List Col → List V → List (Key × V)
  | c :: cs, v :: vs => giveR ch c (chgV c.name ch v) ++ giveL ch cs vs
  | _, _ => []
theorem go_give {ch : Ch} : ∀ {cs : List Col} {vs : List V} {acc acc' : List (Key × V)}, rowGo ch cs vs acc = some acc' → acc' = mergeK acc (giveL ch cs vs)
  | c :: cs, v :: vs, acc, acc', h => by
    have h : (if isMis (chgV c.name ch v) = true then none else rowGo ch cs vs (stepR ch c (chgV c.name ch v) acc)) = some acc' := h
    cases hm : isMis (chgV c.name ch v) with
    | true =>
      rw [hm, if_pos rfl] at h
      cases h
    | false =>
      rw [hm, if_neg (by decide)] at h
      rw [go_give h, step_give]
      show List.foldl _ (List.foldl _ acc _) _ = List.foldl _ acc (giveR ch c (chgV c.name ch v) ++ giveL ch cs vs)
      rw [List.foldl_append]
  | [], vs, acc, acc', h => by
    have h : some acc = some acc' := by cases vs <;> exact h
    exact (Option.some.inj h).symm
  | _ :: _, [], acc, acc', h => (Option.some.inj (show some acc = some acc' from h)).symm
theorem go_free {ch : Ch} : ∀ {cs : List Col} {vs : List V} {acc : List (Key × V)}, (∀ (i : Nat) c v, cs[i]? = some c → vs[i]? = some v → isMis (chgV c.name ch v) = false) → ∃ acc', rowGo ch cs vs acc = some acc'
  | c :: cs, v :: vs, acc, h => by
    obtain ⟨acc', q⟩ := go_free (ch := ch) (cs := cs) (vs := vs) (acc := stepR ch c (chgV c.name ch v) acc) fun i c' v' h1 h2 => h (i + 1) c' v' (by simpa using h1) (by simpa using h2)
    refine ⟨acc', ?_⟩
    show (if isMis (chgV c.name ch v) = true then none else rowGo ch cs vs (stepR ch c (chgV c.name ch v) acc)) = some acc'
    rw [h 0 c v rfl rfl, if_neg (by decide)]
    exact q
  | [], vs, acc, _ => ⟨acc, by cases vs <;> rfl⟩
  | _ :: _, [], acc, _ => ⟨acc, rfl⟩
theorem give_keys {ch : Ch} : ∀ {cs : List Col} {vs : List V}, vs.length = cs.length → (giveL ch cs vs).map (·.1) = (cs.flatMap (colR ch)).map fun c => (Sum.inr c.name : Key)
  | [], [], _ => rfl
  | [], _ :: _, h => by cases h
  | _ :: _, [], h => by cases h
  | c :: cs, v :: vs, h => by
    show (giveR ch c (chgV c.name ch v) ++ giveL ch cs vs).map (·.1) = _
    rw [List.map_append, give_keys (Nat.succ.inj h), List.flatMap_cons, List.map_append]
    congr 1
    unfold giveR
    rw [List.map_map]
    rfl
theorem rowThen_give {cs : List Col} {ch : Ch} {num : Int} {kvs kvs' : List (Key × V)} (g : Good cs num) (f : ch.fits = true) (hz : hindV cs ch = .non) (r : RowD cs kvs) (h : rowThen cs ch kvs = some kvs') : kvs' = giveL ch cs (kvs.map (·.2)) ++ lastR ch := by
  unfold rowThen at h
  cases e : rowGo ch cs (kvs.map (·.2)) [] with
  | none =>
    rw [e] at h
    cases h
  | some acc =>
    rw [e] at h
    obtain rfl := Option.some.inj h
    have e1 := go_give e
    subst e1
    have e2 : endR ch (mergeK [] (giveL ch cs (kvs.map (·.2)))) = mergeK [] (giveL ch cs (kvs.map (·.2)) ++ lastR ch) := by
      cases ch with
      | add n gr d =>
        show putK (mergeK [] _) (Sum.inr n) d = List.foldl _ [] (_ ++ [(Sum.inr n, d)])
        rw [List.foldl_append]
        rfl
      | _ => exact (by show mergeK [] _ = mergeK [] (_ ++ []); rw [List.append_nil])
    rw [e2]
    have hk : (giveL ch cs (kvs.map (·.2)) ++ lastR ch).map (·.1) = ((behind cs ch num).map (·.name)).map (Sum.inr : Str → Key) := by
      rw [List.map_append, give_keys (by rw [List.length_map, r.1]), behind_flat, List.map_append, List.map_append, List.map_map]
      congr 1
      cases ch <;> rfl
    have e3 := merge_new (giveL ch cs (kvs.map (·.2)) ++ lastR ch) [] (by rw [List.nil_append, hk]; exact nodup_inr (g.step f hz).names)
    rw [List.nil_append] at e3
    exact e3
/-- which of two rows a number is of; none: a number of neither -/
def MixO (pick : Int → Option Bool) (n : Int) (v1 v2 vm : V) : Prop := match pick n with
  | none => v2 = v1 ∧ vm = v1
  | some false => vm = v1
  | some true => vm = v2
theorem MixO.map {pick : Int → Option Bool} {n : Int} {v1 v2 vm : V} (f : V → V) (h : MixO pick n v1 v2 vm) : MixO pick n (f v1) (f v2) (f vm) := by
  unfold MixO at h ⊢
  cases e : pick n with
  | none =>
    rw [e] at h
    exact ⟨congrArg f h.1, congrArg f h.2⟩
  | some b =>
    rw [e] at h
    cases b
    · exact congrArg f h
    · exact congrArg f h
inductive MixV (pick : Int → Option Bool) : List Col → List (Key × V) → List (Key × V) → List (Key × V) → Prop
  | nil : MixV pick [] [] [] []
  | cons {c : Col} {cs : List Col} {r1 r2 rm : List (Key × V)} {v1 v2 vm : V} : MixO pick c.num v1 v2 vm → MixV pick cs r1 r2 rm → MixV pick (c :: cs) ((Sum.inr c.name, v1) :: r1) ((Sum.inr c.name, v2) :: r2) ((Sum.inr c.name, vm) :: rm)
theorem MixV.app {pick : Int → Option Bool} : ∀ {cs ds : List Col} {r1 r2 rm s1 s2 sm : List (Key × V)}, MixV pick cs r1 r2 rm → MixV pick ds s1 s2 sm → MixV pick (cs ++ ds) (r1 ++ s1) (r2 ++ s2) (rm ++ sm)
  | _, _, _, _, _, _, _, _, .nil, h => h
  | _, _, _, _, _, _, _, _, .cons h t, q => .cons h (t.app q)
theorem mix_same {pick : Int → Option Bool} {n : Int} {w1 w2 wm : V} (h : MixO pick n w1 w2 wm) : ∀ {ds : List Col}, (∀ c ∈ ds, c.num = n) → MixV pick ds (ds.map fun c => (Sum.inr c.name, w1)) (ds.map fun c => (Sum.inr c.name, w2)) (ds.map fun c => (Sum.inr c.name, wm))
  | [], _ => .nil
  | d :: ds, k => .cons (by rw [k d List.mem_cons_self]; exact h) (mix_same h fun c hc => k c (List.mem_cons_of_mem _ hc))
theorem colR_num {ch : Ch} {c : Col} : ∀ c' ∈ colR ch c, c'.num = c.num := by
  intro c' h
  have one : ∀ d : Col, d.num = c.num → c' ∈ [d] → c'.num = c.num := fun d e q => by rw [List.mem_singleton.mp q]; exact e
  have hn : ∀ c2 : Ch, (if c.name = c2.name then chgC c c2 else c).num = c.num := fun c2 => by
    split
    · cases c2 <;> rfl
    · rfl
  cases ch with
  | add n g d => exact one c rfl h
  | drop n =>
    have h : c' ∈ (if c.name = n then [] else [c]) := h
    split at h
    · cases h
    · exact one c rfl h
  | rename n m => exact one _ (hn _) h
  | dflt n v => exact one _ (hn _) h
  | great n g way => exact one _ (hn _) h
  | fill n i => exact one _ (hn _) h
theorem mix_give {pick : Int → Option Bool} {ch : Ch} : ∀ {cs : List Col} {r1 r2 rm : List (Key × V)}, MixV pick cs r1 r2 rm → MixV pick (cs.flatMap (colR ch)) (giveL ch cs (r1.map (·.2))) (giveL ch cs (r2.map (·.2))) (giveL ch cs (rm.map (·.2)))
  | _, _, _, _, .nil => .nil
  | _, _, _, _, .cons (c := c) h t => by
    rw [List.flatMap_cons]
    exact (mix_same (h.map (chgV c.name ch)) colR_num).app (mix_give t)
theorem mix_step {pick : Int → Option Bool} {cs : List Col} {ch : Ch} {num : Int} {r1 r2 rm s1 s2 sm : List (Key × V)} (g : Good cs num) (f : ch.fits = true) (hz : hindV cs ch = .non) (d1 : RowD cs r1) (d2 : RowD cs r2) (dm : RowD cs rm) (new : pick num = none) (M : MixV pick cs r1 r2 rm)
    (h1 : rowThen cs ch r1 = some s1) (h2 : rowThen cs ch r2 = some s2) (hm : rowThen cs ch rm = some sm) : MixV pick (behind cs ch num) s1 s2 sm := by
  rw [rowThen_give g f hz d1 h1, rowThen_give g f hz d2 h2, rowThen_give g f hz dm hm, behind_flat]
  refine (mix_give M).app ?_
  cases ch with
  | add n gr d =>
    refine .cons ?_ .nil
    show MixO pick num d d d
    unfold MixO
    rw [new]
    exact ⟨rfl, rfl⟩
  | _ => exact .nil
theorem MixV.at_ {pick : Int → Option Bool} : ∀ {cs : List Col} {r1 r2 rm : List (Key × V)} {j : Nat} {c : Col}, MixV pick cs r1 r2 rm → cs[j]? = some c → ∃ v1 v2 vm, r1[j]? = some (Sum.inr c.name, v1) ∧ r2[j]? = some (Sum.inr c.name, v2) ∧ rm[j]? = some (Sum.inr c.name, vm) ∧ MixO pick c.num v1 v2 vm
  | _, _, _, _, _, _, .nil, h => by simp at h
  | _, _, _, _, 0, c, .cons h t, e => by
    obtain rfl := Option.some.inj e
    exact ⟨_, _, _, rfl, rfl, rfl, h⟩
  | _, _, _, _, j + 1, c, .cons h t, e => by
    obtain ⟨v1, v2, vm, h1, h2, h3, h4⟩ := MixV.at_ (j := j) t (by simpa using e)
    exact ⟨v1, v2, vm, by simpa using h1, by simpa using h2, by simpa using h3, h4⟩
theorem MixV.of {pick : Int → Option Bool} : ∀ {cs : List Col} {r1 r2 rm : List (Key × V)}, r1.length = cs.length → r2.length = cs.length → rm.length = cs.length →
    (∀ (j : Nat) (c : Col), cs[j]? = some c → ∃ v1 v2 vm, r1[j]? = some (Sum.inr c.name, v1) ∧ r2[j]? = some (Sum.inr c.name, v2) ∧ rm[j]? = some (Sum.inr c.name, vm) ∧ MixO pick c.num v1 v2 vm) → MixV pick cs r1 r2 rm
  | [], [], [], [], _, _, _, _ => .nil
  | [], _ :: _, _, _, h, _, _, _ => by cases h
  | [], [], _ :: _, _, _, h, _, _ => by cases h
  | [], [], [], _ :: _, _, _, h, _ => by cases h
  | _ :: _, [], _, _, h, _, _, _ => by cases h
  | _ :: _, _ :: _, [], _, _, h, _, _ => by cases h
  | _ :: _, _ :: _, _ :: _, [], _, _, h, _ => by cases h
  | c :: cs, a :: r1, b :: r2, m :: rm, l1, l2, l3, f => by
    obtain ⟨v1, v2, vm, h1, h2, h3, h4⟩ := f 0 c rfl
    obtain rfl := Option.some.inj h1
    obtain rfl := Option.some.inj h2
    obtain rfl := Option.some.inj h3
    exact .cons h4 (MixV.of (Nat.succ.inj l1) (Nat.succ.inj l2) (Nat.succ.inj l3) fun j c' hc => by
      obtain ⟨w1, w2, wm, k1, k2, k3, k4⟩ := f (j + 1) c' (by simpa using hc)
      exact ⟨w1, w2, wm, by simpa using k1, by simpa using k2, by simpa using k3, k4⟩)
theorem atC_up {cs : List Col} {chs : List Ch} {i : Nat} : ∀ t, i + t ≤ chs.length → (atC cs (chs.take i)).2 ≤ (atC cs (chs.take (i + t))).2
  | 0, _ => Int.le_refl _
  | t + 1, h => by
    have e : chs[i + t]? = some chs[i + t] := List.getElem?_eq_getElem (by omega)
    have ih := atC_up (cs := cs) (chs := chs) (i := i) t (by omega)
    rw [show i + (t + 1) = i + t + 1 from rfl, atC_snoc e]
    show _ ≤ numThen chs[i + t] (atC cs (chs.take (i + t))).2
    by_cases k : chs[i + t].kind = "add"
    · rw [kind_add k]
      omega
    · rw [kind_noadd k]
      exact ih
/-- three rows followed: none is barred, and the third stays put together of the two -/
theorem mix_fol {cs : List Col} {chs : List Ch} {i : Nat} {k1 k2 km : List (Key × V)} {pick : Int → Option Bool} (o : HistOk cs chs) (nr : ∀ ch ∈ chs, noRef ch = true) (d1 : RowD (atC cs (chs.take i)).1 k1) (d2 : RowD (atC cs (chs.take i)).1 k2) (dm : RowD (atC cs (chs.take i)).1 km)
    (M : MixV pick (atC cs (chs.take i)).1 k1 k2 km) (new : ∀ n, (atC cs (chs.take i)).2 ≤ n → pick n = none) : ∀ t, i + t ≤ chs.length → ∃ r1 r2 rm, folTo cs chs i k1 t = some r1 ∧ folTo cs chs i k2 t = some r2 ∧ folTo cs chs i km t = some rm ∧ MixV pick (atC cs (chs.take (i + t))).1 r1 r2 rm
  | 0, _ => ⟨k1, k2, km, rfl, rfl, rfl, M⟩
  | t + 1, h => by
    obtain ⟨r1, r2, rm, e1, e2, em, M'⟩ := mix_fol o nr d1 d2 dm M new t (by omega)
    have hc : chs[i + t]? = some chs[i + t] := List.getElem?_eq_getElem (by omega)
    obtain ⟨ft, hz⟩ := o.f (i + t) _ hc
    have g := o.f.good o.g (i + t) (by omega)
    have q1 := folTo_row o d1 t (by omega) r1 e1
    have q2 := folTo_row o d2 t (by omega) r2 e2
    have qm := folTo_row o dm t (by omega) rm em
    have free : ∀ r, RowD (atC cs (chs.take (i + t))).1 r → ∃ s, rowThen (atC cs (chs.take (i + t))).1 chs[i + t] r = some s := fun r q => by
      obtain ⟨acc, e⟩ := go_free (ch := chs[i + t]) (cs := (atC cs (chs.take (i + t))).1) (vs := r.map (·.2)) (acc := []) fun j c v h1 h2 => by
        obtain ⟨v', h3, h4⟩ := q.2 j c h1
        rw [List.getElem?_map, h3] at h2
        obtain rfl : v' = v := Option.some.inj h2
        exact noRef_free ft (nr _ (List.mem_of_getElem? hc)) h4
      exact ⟨_, by unfold rowThen; rw [e]; rfl⟩
    obtain ⟨s1, f1⟩ := free r1 q1
    obtain ⟨s2, f2⟩ := free r2 q2
    obtain ⟨sm, fm⟩ := free rm qm
    refine ⟨s1, s2, sm, by rw [folTo_succ e1 hc]; exact f1, by rw [folTo_succ e2 hc]; exact f2, by rw [folTo_succ em hc]; exact fm, ?_⟩
    rw [show i + (t + 1) = i + t + 1 from rfl, atC_snoc hc]
    exact mix_step g ft hz q1 q2 qm (new _ (atC_up t (by omega))) M' f1 f2 fm

/-! columns by their numbers, through the editions; what becomes of a value under a number -/
abbrev colsE (cs : List Col) (chs : List Ch) (i : Nat) : List Col := (atC cs (chs.take i)).1
abbrev numE (cs : List Col) (chs : List Ch) (i : Nat) : Int := (atC cs (chs.take i)).2
/-- the column with the number n at an edition -/
abbrev colE (cs : List Col) (chs : List Ch) (i : Nat) (n : Int) : Option Col := (colsE cs chs i).find? (isK n)
theorem findK_mem {cs : List Col} {n : Int} {c : Col} (h : cs.find? (isK n) = some c) : c ∈ cs ∧ c.num = n := by
  have h2 := List.find?_some h
  exact ⟨List.mem_of_find?_eq_some h, of_decide_eq_true (show decide (c.num = n) = true from h2)⟩
theorem findK_none {cs : List Col} {n : Int} (h : cs.find? (isK n) = none) : ∀ c ∈ cs, c.num ≠ n := fun c hc e => by
  have := List.find?_eq_none.mp h c hc
  exact this (decide_eq_true e)
theorem asc_find {cs : List Col} {c : Col} (a : Asc cs) (hc : c ∈ cs) : cs.find? (isK c.num) = some c := by
  cases h : cs.find? (isK c.num) with
  | none => exact absurd rfl (findK_none h c hc)
  | some d =>
    obtain ⟨h1, h2⟩ := findK_mem h
    obtain ⟨i, hi⟩ := List.mem_iff_getElem?.mp hc
    obtain ⟨j, hj⟩ := List.mem_iff_getElem?.mp h1
    obtain rfl := asc_uniq a hj hi h2
    rw [← hj, hi]
theorem mem_behind {cs : List Col} {ch : Ch} {num : Int} {c' : Col} : c' ∈ behind cs ch num ↔ (∃ c ∈ cs, c' ∈ colR ch c) ∨ c' ∈ newR ch num := by
  rw [behind_flat, List.mem_append, List.mem_flatMap]
theorem newR_num {ch : Ch} {num : Int} {c : Col} (h : c ∈ newR ch num) : c.num = num := by
  cases ch with
  | add n g d =>
    rw [List.mem_singleton.mp h]
  | _ => cases h
section
variable {cs : List Col} {chs : List Ch}
theorem colsE_succ {i : Nat} {ch : Ch} (h : chs[i]? = some ch) : colsE cs chs (i + 1) = behind (colsE cs chs i) ch (numE cs chs i) := by
  show (atC cs (chs.take (i + 1))).1 = _
  rw [atC_snoc h]
  rfl
theorem numE_succ {i : Nat} {ch : Ch} (h : chs[i]? = some ch) : numE cs chs (i + 1) = numThen ch (numE cs chs i) := by
  show (atC cs (chs.take (i + 1))).2 = _
  rw [atC_snoc h]
  rfl
theorem numE_mono {i j : Nat} (h : i ≤ j) : numE cs chs i ≤ numE cs chs j := grows h
/-- an elder number there behind a change was there ahead of it -/
theorem there_ahead {i : Nat} {n : Int} {c' : Col} (o : HistOk cs chs) {ch : Ch} (hc : chs[i]? = some ch) (h : colE cs chs (i + 1) n = some c') (hn : n < numE cs chs i) : ∃ c, colE cs chs i n = some c ∧ c' ∈ colR ch c := by
  obtain ⟨h1, h2⟩ := findK_mem h
  have h1 : c' ∈ behind (colsE cs chs i) ch (numE cs chs i) := by rw [← colsE_succ hc]; exact h1
  rcases mem_behind.mp h1 with ⟨c, h3, h4⟩ | h3
  · have e := colR_num c' h4
    refine ⟨c, ?_, h4⟩
    have hil := (List.getElem?_eq_some_iff.mp hc).1
    have := asc_find (asc_at o i (by omega)) h3
    rw [← e, h2] at this
    exact this
  · have := newR_num h3
    omega
theorem gone_on {i : Nat} {n : Int} (o : HistOk cs chs) {ch : Ch} (hc : chs[i]? = some ch) (h : colE cs chs i n = none) (hn : n < numE cs chs i) : colE cs chs (i + 1) n = none := by
  cases e : colE cs chs (i + 1) n with
  | none => rfl
  | some c' =>
    obtain ⟨c, h1, _⟩ := there_ahead o hc e hn
    rw [h] at h1
    cases h1
theorem gone_stays {i : Nat} {n : Int} (o : HistOk cs chs) (h : colE cs chs i n = none) (hn : n < numE cs chs i) : ∀ k, i + k ≤ chs.length → colE cs chs (i + k) n = none
  | 0, _ => h
  | k + 1, hk => by
    have hc : chs[i + k]? = some chs[i + k] := List.getElem?_eq_getElem (by omega)
    exact gone_on o hc (gone_stays o h hn k (by omega)) (Int.lt_of_lt_of_le hn (numE_mono (Nat.le_add_right i k)))
/-- one step of a value under a number -/
def stepN (cl : List Col) (ch : Ch) (n : Int) (v : V) : V := if isMis v = true then v else match cl.find? (isK n) with
  | some c => chgV c.name ch v
  | none => v
/-- what a value under a number becomes by the changes behind an edition, so many of them; MISSING where it is barred -/
def ledT (cs : List Col) (chs : List Ch) (n : Int) (s : Nat) (v : V) : Nat → V
  | 0 => v
  | k + 1 => match chs[s + k]? with
    | some ch => stepN (colsE cs chs (s + k)) ch n (ledT cs chs n s v k)
    | none => ledT cs chs n s v k
theorem ledT_succ {n : Int} {s k : Nat} {v : V} {ch : Ch} (h : chs[s + k]? = some ch) : ledT cs chs n s v (k + 1) = stepN (colsE cs chs (s + k)) ch n (ledT cs chs n s v k) := by
  show (match chs[s + k]? with
    | some ch => stepN (colsE cs chs (s + k)) ch n (ledT cs chs n s v k)
    | none => ledT cs chs n s v k) = _
  rw [h]
theorem stepN_mis {cl : List Col} {ch : Ch} {n : Int} {v : V} (h : isMis v = true) : stepN cl ch n v = v := if_pos h
theorem ledT_mis {n : Int} {s k : Nat} {v : V} (h : isMis (ledT cs chs n s v k) = true) : ∀ j, ledT cs chs n s v (k + j) = ledT cs chs n s v k
  | 0 => rfl
  | j + 1 => by
    show (match chs[s + (k + j)]? with
      | some ch => stepN (colsE cs chs (s + (k + j))) ch n (ledT cs chs n s v (k + j))
      | none => ledT cs chs n s v (k + j)) = _
    rw [ledT_mis h j]
    split
    · exact stepN_mis h
    · rfl
theorem ledT_gone {n : Int} {s k : Nat} {v : V} (o : HistOk cs chs) (h : colE cs chs (s + k) n = none) (hn : n < numE cs chs (s + k)) : ∀ j, s + k + j ≤ chs.length → ledT cs chs n s v (k + j) = ledT cs chs n s v k
  | 0, _ => rfl
  | j + 1, hj => by
    have hc : chs[s + (k + j)]? = some chs[s + (k + j)] := List.getElem?_eq_getElem (by omega)
    rw [show k + (j + 1) = (k + j) + 1 from rfl, ledT_succ hc, ledT_gone o h hn j (by omega)]
    have g := gone_stays o h hn j (by omega)
    rw [Nat.add_assoc] at g
    unfold stepN
    split
    · rfl
    · have g : (colsE cs chs (s + (k + j))).find? (isK n) = none := g
      rw [g]
theorem chg_val {n : Str} {ch : Ch} {v : V} (f : ch.fits = true) (h : isVal v = true) (hm : isMis (chgV n ch v) = false) : isVal (chgV n ch v) = true := by
  unfold chgV at hm ⊢
  split at hm
  · rename_i hn
    rw [if_pos hn]
    cases ch with
    | fill m i =>
      have f : (isNm (.str m) && decide (0 ≤ i)) = true := f
      cases v with
      | non => exact (Bool.and_eq_true_iff.mp f).2
      | _ => exact h
    | great m g way =>
      cases v with
      | int j =>
        have f : (isNm (.str m) && (isGr (.int g) && isWy way)) = true := f
        have hg := (Bool.and_eq_true_iff.mp (Bool.and_eq_true_iff.mp f).2).1
        have hg : (decide (1 ≤ g) && decide (g ≤ 99)) = true := hg
        have hg1 := of_decide_eq_true (Bool.and_eq_true_iff.mp hg).1
        show isVal (if g < j then abv g way else .int j) = true
        have hm : isMis (if g < j then abv g way else .int j) = false := hm
        split at hm
        · rename_i hj
          rw [if_pos hj]
          unfold abv at hm ⊢
          split at hm
          · rename_i hw
            rw [if_pos hw]
            exact decide_eq_true (by omega)
          · rename_i hw
            rw [if_neg hw]
            split at hm
            · rename_i hw2
              rw [if_pos hw2]
              rfl
            · rename_i hw2
              exact absurd hm (by decide)
        · rename_i hj
          rw [if_neg hj]
          exact h
      | _ => exact h
    | _ => exact h
  · rename_i hn
    rw [if_neg hn]
    exact h
theorem isVal_mis {v : V} (h : isVal v = true) : isMis v = false := by
  cases v with
  | str _ => cases h
  | _ => rfl
theorem isVal_ok {v : V} (h : isVal v = true) : valOk v = true := by
  cases v with
  | non => rfl
  | int _ => rfl
  | _ => cases h
theorem isVal_in {t : Int} {v : V} (h : isIn t v = true) : isVal v = true := by
  cases v with
  | non => rfl
  | int i => exact (Bool.and_eq_true_iff.mp (show (decide (0 ≤ i) && decide (i ≤ t)) = true from h)).1
  | _ => cases h
theorem stepN_val {cl : List Col} {ch : Ch} {n : Int} {v : V} (f : ch.fits = true) (h : isVal v = true) (hm : isMis (stepN cl ch n v) = false) : isVal (stepN cl ch n v) = true := by
  unfold stepN at hm ⊢
  rw [if_neg (by rw [isVal_mis h]; decide)] at hm ⊢
  cases e : cl.find? (isK n) with
  | none => exact h
  | some c =>
    rw [e] at hm
    exact chg_val f h hm
theorem ledT_mono {n : Int} {s k : Nat} {v : V} (h : isMis (ledT cs chs n s v (k + 1)) = false) : isMis (ledT cs chs n s v k) = false := by
  cases e : isMis (ledT cs chs n s v k) with
  | false => rfl
  | true =>
    rw [ledT_mis e 1, e] at h
    cases h
theorem ledT_val {n : Int} {s : Nat} {v : V} (o : HistOk cs chs) (h : isVal v = true) : ∀ k, isMis (ledT cs chs n s v k) = false → isVal (ledT cs chs n s v k) = true
  | 0, _ => h
  | k + 1, hm => by
    have ih := ledT_val o h k (ledT_mono hm)
    cases e : chs[s + k]? with
    | none =>
      have : ledT cs chs n s v (k + 1) = ledT cs chs n s v k := by
        show (match chs[s + k]? with
          | some ch => stepN (colsE cs chs (s + k)) ch n (ledT cs chs n s v k)
          | none => ledT cs chs n s v k) = _
        rw [e]
      rw [this]
      exact ih
    | some ch =>
      rw [ledT_succ e] at hm ⊢
      exact stepN_val (o.f _ _ e).1 ih hm
end

/-! births and drops: what the lists of a History tell -/
section
variable {cs : List Col} {chs : List Ch}
theorem bornStep_mem (i : Nat) : ∀ (cs : List Col) (b : List Int) (x : Int), x ∈ cs.foldl (bornStep i) b → x ∈ b ∨ x = (i : Int)
  | [], b, x, h => .inl h
  | c :: cs, b, x, h => by
    rcases bornStep_mem i cs _ x h with h | h
    · unfold bornStep at h
      split at h
      · rcases List.mem_append.mp h with h | h
        · exact .inl h
        · exact .inr (List.mem_singleton.mp h)
      · exact .inl h
    · exact .inr h
/-- the edition at which a number is first there -/
def BornIs (cs : List Col) (chs : List Ch) (n : Int) (b : Nat) : Prop := n < numE cs chs b ∧ ∀ i, i < b → numE cs chs i ≤ n
theorem BornIs.uniq {n : Int} {b b' : Nat} (h : BornIs cs chs n b) (h' : BornIs cs chs n b') : b = b' := by
  rcases Nat.lt_trichotomy b b' with q | q | q
  · have := h'.2 b q
    have := h.1
    omega
  · exact q
  · have := h.2 b' q
    have := h'.1
    omega
theorem born_to (o : HistOk cs chs) : ∀ i, i ≤ chs.length → ∀ n : Int, 0 ≤ n → n < numE cs chs i → ∃ b : Nat, (bornTo (edsTo cs chs (chs.length + 1)) (i + 1))[n.toNat]? = some ((b : Nat) : Int) ∧ b ≤ i ∧ BornIs cs chs n b
  | 0, _, n, h0, h1 => by
    have hl := o.f.born o.pl o.g 0 (Nat.zero_le _)
    have hn : n.toNat < (bornTo (edsTo cs chs (chs.length + 1)) (0 + 1)).length := by
      have h1 : n < (atC cs (chs.take 0)).2 := h1
      omega
    have hg := List.getElem?_eq_getElem hn
    have hm := List.mem_of_getElem? hg
    have e0 : bornTo (edsTo cs chs (chs.length + 1)) (0 + 1) = (List.getD (edsTo cs chs (chs.length + 1)) 0 []).foldl (bornStep 0) [] := rfl
    have hz : (bornTo (edsTo cs chs (chs.length + 1)) (0 + 1))[n.toNat] = ((0 : Nat) : Int) := by
      rcases bornStep_mem 0 _ [] _ (by rw [← e0]; exact hm) with h | h
      · cases h
      · exact h
    rw [hz] at hg
    exact ⟨0, hg, Nat.le_refl _, h1, fun i hi => by omega⟩
  | i + 1, hi, n, h0, h1 => by
    obtain ⟨ch, e⟩ : ∃ ch, chs[i]? = some ch := ⟨_, List.getElem?_eq_getElem (by omega)⟩
    have gd := o.f.good o.g i (by omega)
    have gd2 := gd.step (o.f i _ e).1 (o.f i _ e).2
    have hl : ((bornTo (edsTo cs chs (chs.length + 1)) (i + 1)).length : Int) = numE cs chs i := o.f.born o.pl o.g i (by omega)
    have eb : bornTo (edsTo cs chs (chs.length + 1)) (i + 1 + 1) = (behind (atC cs (chs.take i)).1 ch (atC cs (chs.take i)).2).foldl (bornStep (i + 1)) (bornTo (edsTo cs chs (chs.length + 1)) (i + 1)) := by
      show (List.getD (edsTo cs chs (chs.length + 1)) (i + 1) []).foldl (bornStep (i + 1)) _ = _
      rw [List.getD_eq_getElem?_getD, edsTo_get (by omega), atC_snoc e]
      rfl
    rw [numE_succ e] at h1
    by_cases hn : n < numE cs chs i
    · obtain ⟨b, h2, h3, h4⟩ := born_to o i (by omega) n h0 hn
      refine ⟨b, ?_, by omega, h4⟩
      have hlt := (List.getElem?_eq_some_iff.mp h2).1
      rw [eb]
      -- what was told stays
      have pre : ∀ (cl : List Col) (bb : List Int), n.toNat < bb.length → (cl.foldl (bornStep (i + 1)) bb)[n.toNat]? = bb[n.toNat]? := fun cl => by
        induction cl with
        | nil => exact fun bb _ => rfl
        | cons c cl ih =>
          intro bb hb
          show (cl.foldl (bornStep (i + 1)) (bornStep (i + 1) bb c))[n.toNat]? = _
          by_cases q : c.num = bb.length
          · rw [bornStep_pos q, ih _ (by rw [List.length_append]; omega), List.getElem?_append_left hb]
          · rw [bornStep_neg q]
            exact ih bb hb
      rw [pre _ _ hlt]
      exact h2
    · -- the number is new
      have ka : ch.kind = "add" := by
        cases hk : decide (ch.kind = "add") with
        | true => exact of_decide_eq_true hk
        | false =>
          rw [kind_noadd (of_decide_eq_false hk)] at h1
          exact absurd h1 hn
      rw [kind_add ka] at h1
      have en : n = numE cs chs i := by omega
      cases ch with
      | add nm gr d =>
        have hs : (atC cs (chs.take i)).1.foldl (bornStep (i + 1)) (bornTo (edsTo cs chs (chs.length + 1)) (i + 1)) = bornTo (edsTo cs chs (chs.length + 1)) (i + 1) := bornSame fun c hc => by rw [hl]; exact (gd.ok c hc).2
        rw [show behind (atC cs (chs.take i)).1 (.add nm gr d) (atC cs (chs.take i)).2 = (atC cs (chs.take i)).1 ++ [⟨nm, gr, d, (atC cs (chs.take i)).2⟩] from rfl, List.foldl_append, hs, List.foldl_cons, List.foldl_nil, bornStep_pos (show (atC cs (chs.take i)).2 = _ from hl.symm)] at eb
        refine ⟨i + 1, ?_, Nat.le_refl _, ?_, fun j hj => ?_⟩
        · have hl' : n.toNat = (bornTo (edsTo cs chs (chs.length + 1)) (i + 1)).length := by omega
          rw [eb, hl', List.getElem?_append_right (Nat.le_refl _), Nat.sub_self]
          rfl
        · rw [numE_succ e]
          show n < numE cs chs i + 1
          omega
        · rw [en]
          exact numE_mono (by omega)
      | drop _ => exact absurd (show ("drop" : Str) = "add" from ka) (by decide +kernel)
      | rename _ _ => exact absurd (show ("rename" : Str) = "add" from ka) (by decide +kernel)
      | dflt _ _ => exact absurd (show ("default" : Str) = "add" from ka) (by decide +kernel)
      | great _ _ _ => exact absurd (show ("greatest" : Str) = "add" from ka) (by decide +kernel)
      | fill _ _ => exact absurd (show ("fill" : Str) = "add" from ka) (by decide +kernel)
theorem numE_all : numE cs chs chs.length = (atC cs chs).2 := by
  show (atC cs (chs.take chs.length)).2 = _
  rw [List.take_length]
theorem born_at (o : HistOk cs chs) {n : Int} (h0 : 0 ≤ n) (h1 : n < (atC cs chs).2) : ∃ b : Nat, (bornH cs chs)[n.toNat]? = some ((b : Nat) : Int) ∧ b ≤ chs.length ∧ BornIs cs chs n b := by
  obtain ⟨b, h2, h3, h4⟩ := born_to o chs.length (Nat.le_refl _) n h0 (by rw [numE_all]; exact h1)
  refine ⟨b, ?_, h3, h4⟩
  unfold bornH bornOf
  rw [edsTo_len]
  exact h2
/-- a number is there at its birth -/
theorem born_there (o : HistOk cs chs) {n : Int} {b : Nat} (h0 : 0 ≤ n) (hb : b ≤ chs.length) (h : BornIs cs chs n b) : ∃ c, colE cs chs b n = some c := by
  cases b with
  | zero =>
    have h1 : n < (cs.length : Int) := h.1
    have hlt : n.toNat < cs.length := by omega
    have hg : cs[n.toNat]? = some (cs[n.toNat]'hlt) := List.getElem?_eq_getElem hlt
    have hp := o.pl _ _ hg
    refine ⟨cs[n.toNat]'hlt, ?_⟩
    have := asc_find (asc_at o 0 (Nat.zero_le _)) (List.mem_of_getElem? hg)
    rw [hp, show ((n.toNat : Nat) : Int) = n by omega] at this
    exact this
  | succ i =>
    obtain ⟨ch, e⟩ : ∃ ch, chs[i]? = some ch := ⟨_, List.getElem?_eq_getElem (by omega)⟩
    have h1 := h.1
    have h2 := h.2 i (Nat.lt_succ_self i)
    rw [numE_succ e] at h1
    cases ch with
    | add nm gr d =>
      have h1 : n < numE cs chs i + 1 := h1
      have en : n = numE cs chs i := by omega
      refine ⟨⟨nm, gr, d, numE cs chs i⟩, ?_⟩
      have hm : (⟨nm, gr, d, numE cs chs i⟩ : Col) ∈ colsE cs chs (i + 1) := by
        rw [colsE_succ e]
        exact List.mem_append_right _ (List.mem_singleton.mpr rfl)
      have := asc_find (asc_at o (i + 1) hb) hm
      show (colsE cs chs (i + 1)).find? (isK n) = _
      rw [en]
      exact this
    | _ => exact absurd h1 (by show ¬ n < numE cs chs i; omega)
/-- what stands in the list of drops for the number n behind so many editions -/
def DropIs (cs : List Col) (chs : List Ch) (n : Int) (i : Nat) (v : V) : Prop := (v = .non ∧ ∀ j, j < i → ¬ (∃ c, colE cs chs j n = some c) ∨ ∃ c, colE cs chs (j + 1) n = some c) ∨
  ∃ d : Nat, v = .int (d : Nat) ∧ 1 ≤ d ∧ d ≤ i ∧ (∃ c, colE cs chs (d - 1) n = some c) ∧ colE cs chs d n = none
theorem dropFold {next : List Col} {i : Nat} {n : Int} (h0 : 0 ≤ n) : ∀ (cl : List Col) (d : List V), (∀ c ∈ cl, 0 ≤ c.num) → n.toNat < d.length → (cl.foldl (dropStep next i) d)[n.toNat]? = if (∃ c ∈ cl, c.num = n) ∧ next.find? (isK n) = none then some (.int (i : Nat)) else d[n.toNat]?
  | [], d, _, _ => by
    rw [if_neg]
    · rfl
    · rintro ⟨⟨c, h, _⟩, _⟩
      cases h
  | c :: cl, d, hp, hl => by
    show (cl.foldl (dropStep next i) (dropStep next i d c))[n.toNat]? = _
    have hl2 : n.toNat < (dropStep next i d c).length := by
      unfold dropStep
      split
      · rw [List.length_set]; exact hl
      · exact hl
    rw [dropFold h0 cl _ (fun c' hc' => hp c' (List.mem_cons_of_mem _ hc')) hl2]
    have hc0 := hp c List.mem_cons_self
    by_cases h1 : (∃ c ∈ cl, c.num = n) ∧ next.find? (isK n) = none
    · rw [if_pos h1, if_pos ⟨by obtain ⟨⟨c', h2, h3⟩, _⟩ := h1; exact ⟨c', List.mem_cons_of_mem _ h2, h3⟩, h1.2⟩]
    · rw [if_neg h1]
      by_cases h2 : c.num = n
      · by_cases h3 : next.find? (isK n) = none
        · rw [if_pos ⟨⟨c, List.mem_cons_self, h2⟩, h3⟩]
          have hg : gone next c = true := by
            unfold gone
            rw [h2, h3]
            rfl
          unfold dropStep
          rw [if_pos hg, h2, List.getElem?_set_self hl]
        · rw [if_neg fun q => h3 q.2]
          have hg : ¬ gone next c = true := by
            unfold gone
            rw [h2]
            intro q
            exact h3 (Option.isNone_iff_eq_none.mp q)
          unfold dropStep
          rw [if_neg hg]
      · have : ¬ ((∃ c' ∈ c :: cl, c'.num = n) ∧ next.find? (isK n) = none) := by
          rintro ⟨⟨c', h3, h4⟩, h5⟩
          rcases List.mem_cons.mp h3 with rfl | h3
          · exact h2 h4
          · exact h1 ⟨⟨c', h3, h4⟩, h5⟩
        rw [if_neg this]
        unfold dropStep
        split
        · rw [List.getElem?_set_ne (by omega)]
        · rfl
theorem drop_to (o : HistOk cs chs) {n : Int} {m : Nat} (h0 : 0 ≤ n) (hm : n.toNat < m) : ∀ i, i ≤ chs.length → ∃ v, (dropTo (edsTo cs chs (chs.length + 1)) m i)[n.toNat]? = some v ∧ DropIs cs chs n i v
  | 0, _ => ⟨.non, by show (List.replicate m V.non)[n.toNat]? = _; rw [List.getElem?_replicate, if_pos hm], .inl ⟨rfl, fun j hj => by omega⟩⟩
  | i + 1, hi => by
    obtain ⟨v, h1, h2⟩ := drop_to o h0 hm i (by omega)
    have e : dropTo (edsTo cs chs (chs.length + 1)) m (i + 1) = (colsE cs chs i).foldl (dropStep (colsE cs chs (i + 1)) (i + 1)) (dropTo (edsTo cs chs (chs.length + 1)) m i) := by
      show (List.getD (edsTo cs chs (chs.length + 1)) i []).foldl (dropStep (List.getD (edsTo cs chs (chs.length + 1)) (i + 1) []) (i + 1)) _ = _
      rw [List.getD_eq_getElem?_getD, List.getD_eq_getElem?_getD, edsTo_get (by omega), edsTo_get (by omega)]
      rfl
    have gd := o.f.good o.g i (by omega)
    have f := dropFold (next := colsE cs chs (i + 1)) (i := i + 1) h0 (colsE cs chs i) (dropTo (edsTo cs chs (chs.length + 1)) m i) (fun c hc => (gd.ok c hc).1.nu) (by rw [dropTo_len]; exact hm)
    rw [e, f]
    split
    · rename_i q
      obtain ⟨⟨c, h3, h4⟩, h5⟩ := q
      refine ⟨_, rfl, .inr ⟨i + 1, rfl, by omega, Nat.le_refl _, ⟨c, ?_⟩, h5⟩⟩
      have := asc_find (asc_at o i (by omega)) h3
      rw [h4] at this
      exact this
    · rename_i q
      refine ⟨v, h1, ?_⟩
      rcases h2 with ⟨h3, h4⟩ | ⟨d, h3, h4, h5, h6⟩
      · refine .inl ⟨h3, fun j hj => ?_⟩
        by_cases hji : j < i
        · exact h4 j hji
        · obtain rfl : j = i := by omega
          cases hc : colE cs chs (j + 1) n with
          | some c => exact .inr ⟨c, rfl⟩
          | none =>
            refine .inl fun ⟨c, hc'⟩ => ?_
            obtain ⟨k1, k2⟩ := findK_mem hc'
            exact q ⟨⟨c, k1, k2⟩, hc⟩
      · exact .inr ⟨d, h3, h4, by omega, h6⟩
theorem drop_at (o : HistOk cs chs) {n : Int} (h0 : 0 ≤ n) (h1 : n < (atC cs chs).2) : ∃ v, (dropOf (edsTo cs chs (chs.length + 1)) (bornH cs chs).length)[n.toNat]? = some v ∧ DropIs cs chs n chs.length v := by
  have := o.born
  obtain ⟨v, h2, h3⟩ := drop_to o (m := (bornH cs chs).length) h0 (by omega) chs.length (Nat.le_refl _)
  refine ⟨v, ?_, h3⟩
  unfold dropOf
  rw [edsTo_len]
  exact h2
/-- the column with the number was dropped not behind an edition -/
def goneB (cs : List Col) (chs : List Ch) (n : Int) (e : Nat) : Bool := decide (n < numE cs chs e) && (colE cs chs e n).isNone
theorem DropIs.gone {n : Int} {v : V} (o : HistOk cs chs) (h0 : 0 ≤ n) (h1 : n < (atC cs chs).2) (h : DropIs cs chs n chs.length v) {e : Nat} (he : e ≤ chs.length) : goneB cs chs n e = match v with
    | .int d => decide (d ≤ (e : Nat))
    | _ => false := by
  obtain ⟨b, _, hb1, hb2⟩ := born_at o h0 h1
  rcases h with ⟨rfl, h2⟩ | ⟨d, rfl, h3, h4, h5, h6⟩
  · show goneB cs chs n e = false
    unfold goneB
    by_cases hn : n < numE cs chs e
    · have hbe : b ≤ e := by
        rcases Nat.lt_or_ge e b with q | q
        · have := hb2.2 e q
          omega
        · exact q
      have up : ∀ k, b + k ≤ chs.length → ∃ c, colE cs chs (b + k) n = some c := fun k => by
        induction k with
        | zero => exact fun _ => born_there o h0 hb1 hb2
        | succ k ih =>
          intro hk
          rcases h2 (b + k) (by omega) with q | q
          · exact absurd (ih (by omega)) q
          · exact q
      obtain ⟨c, hc⟩ := up (e - b) (by omega)
      rw [show b + (e - b) = e by omega] at hc
      rw [hc]
      exact Bool.and_false _
    · rw [decide_eq_false hn]
      rfl
  · show goneB cs chs n e = decide (((d : Nat) : Int) ≤ (e : Nat))
    obtain ⟨c, hc⟩ := h5
    have hn1 : n < numE cs chs (d - 1) := by
      obtain ⟨k1, k2⟩ := findK_mem hc
      have := ((o.f.good o.g (d - 1) (by omega)).ok c k1).2
      rw [← k2]
      exact this
    unfold goneB
    by_cases hde : d ≤ e
    · have hn : n < numE cs chs e := Int.lt_of_lt_of_le hn1 (numE_mono (by omega))
      have hg := gone_stays o h6 (Int.lt_of_lt_of_le hn1 (numE_mono (by omega))) (e - d) (by omega)
      rw [show d + (e - d) = e by omega] at hg
      rw [decide_eq_true hn, hg, decide_eq_true (by omega)]
      rfl
    · rw [decide_eq_false (by omega : ¬ ((d : Nat) : Int) ≤ (e : Nat))]
      by_cases hn : n < numE cs chs e
      · cases hg : colE cs chs e n with
        | some c => exact Bool.and_false _
        | none =>
          have hg2 := gone_stays o hg hn (d - 1 - e) (by omega)
          rw [show e + (d - 1 - e) = d - 1 by omega, hc] at hg2
          cases hg2
      · rw [decide_eq_false hn]
        rfl
end

/-! the edition at which a number is first there, told -/
section
variable {cs : List Col} {chs : List Ch}
def bornN (cs : List Col) (chs : List Ch) (n : Int) : Nat := match (bornH cs chs)[n.toNat]? with
  | some b => b.toNat
  | none => 0
theorem bornN_spec (o : HistOk cs chs) {n : Int} (h0 : 0 ≤ n) (h1 : n < (atC cs chs).2) : (bornH cs chs)[n.toNat]? = some ((bornN cs chs n : Nat) : Int) ∧ bornN cs chs n ≤ chs.length ∧ BornIs cs chs n (bornN cs chs n) := by
  obtain ⟨b, h2, h3, h4⟩ := born_at o h0 h1
  have e : bornN cs chs n = b := by
    unfold bornN
    rw [h2]
    exact Int.toNat_natCast b
  rw [e]
  exact ⟨h2, h3, h4⟩
end

/-! history.born(number) -/
def sp_Hist_born (K : PySem.W.Frag) : Sp := fun vs H Q _ => ∃ (h : Addr) (cs : List Col) (chs : List Ch) (n : Int), vs = [.ref h, .int n] ∧ HistAt K H h cs chs ∧ HistOk cs chs ∧ 0 ≤ n ∧ n < (atC cs chs).2 ∧ Q (.int (bornN cs chs n : Nat)) H
theorem ok_Hist_born (T : Tx K mg) : ∃ fd, FnOk P w K mg base CX0 3 (He.ma K (He.ga K "History") "born") fd ["self", "number"] (sp_Hist_born K) ∧ Binds K fd ["self", "number"] [] := by
  have C1 := ok_is_given (P := P) (w := w) (base := base) T
  refine mkMeth (fd_History_born T) sc_History_born (fun _ _ _ _ _ _ us hl => match us, hl with | [_, _], _ => rfl) (fun vs H Q E h => ?_) (fun cdv A outer s H vs Q E hr h => ?_)
  · obtain ⟨h, cs, chs, n, rfl, _⟩ := h
    rfl
  obtain ⟨h, cs, chs, n, rfl, hq, o, h0, h1, k⟩ := h
  obtain ⟨dx, e, c, b, d, es, ts, hh, he, hE, hc, hC, hb, hd⟩ := id hq
  obtain ⟨hb1, hb2, hb3⟩ := bornN_spec o h0 h1
  refine ⟨_, (pss_cons (ps_if (pt_not (pt_val (pcall C1 hr (pa_cons (pv 0) (pa_cons (pv 1) pa_nil))))) (pss_one ps_never) pss_nil)
        (pss_one (ps_ret (pe_ix ix_list (pe_fld (pv 0) rfl) (pv 1) (fun _ _ => rfl))))), ?_⟩
  refine ⟨_, rfl, _, rfl, h, cs, chs, n, rfl, hq, o, _, rfl, ?_⟩
  rw [decide_eq_true h0, decide_eq_true h1]
  refine iteF (nxt ⟨_, rfl, h, _, dx, _, _, rfl, hh, cl_History T, na_History__births T, histFs_births, _, rfl, b, _, n, _, rfl, rfl, sqL_of hb, ix_int h0 (by rw [List.getElem?_map, hb1]; rfl), k⟩)
/-! history.dropped(number) -/
def sp_Hist_dropped (K : PySem.W.Frag) : Sp := fun vs H Q _ => ∃ (h : Addr) (cs : List Col) (chs : List Ch) (n : Int), vs = [.ref h, .int n] ∧ HistAt K H h cs chs ∧ HistOk cs chs ∧ 0 ≤ n ∧ n < (atC cs chs).2 ∧ ∀ v, DropIs cs chs n chs.length v → Q v H
theorem ok_Hist_dropped (T : Tx K mg) : ∃ fd, FnOk P w K mg base CX0 3 (He.ma K (He.ga K "History") "dropped") fd ["self", "number"] (sp_Hist_dropped K) ∧ Binds K fd ["self", "number"] [] := by
  have C1 := ok_is_given (P := P) (w := w) (base := base) T
  refine mkMeth (fd_History_dropped T) sc_History_dropped (fun _ _ _ _ _ _ us hl => match us, hl with | [_, _], _ => rfl) (fun vs H Q E h => ?_) (fun cdv A outer s H vs Q E hr h => ?_)
  · obtain ⟨h, cs, chs, n, rfl, _⟩ := h
    rfl
  obtain ⟨h, cs, chs, n, rfl, hq, o, h0, h1, k⟩ := h
  obtain ⟨dx, e, c, b, d, es, ts, hh, he, hE, hc, hC, hb, hd⟩ := id hq
  obtain ⟨v, hv1, hv2⟩ := drop_at o h0 h1
  refine ⟨_, (pss_cons (ps_if (pt_not (pt_val (pcall C1 hr (pa_cons (pv 0) (pa_cons (pv 1) pa_nil))))) (pss_one ps_never) pss_nil)
        (pss_one (ps_ret (pe_ix ix_list (pe_fld (pv 0) rfl) (pv 1) (fun _ _ => rfl))))), ?_⟩
  refine ⟨_, rfl, _, rfl, h, cs, chs, n, rfl, hq, o, _, rfl, ?_⟩
  rw [decide_eq_true h0, decide_eq_true h1]
  refine iteF (nxt ⟨_, rfl, h, _, dx, _, _, rfl, hh, cl_History T, na_History__drops T, histFs_drops, _, rfl, d, _, n, v, rfl, rfl, sqL_of hd, ix_int h0 hv1, k v hv2⟩)
/-! what is behind an edition -/
theorem Chs.drop {K : PySem.W.Frag} {H : Hp} : ∀ {as : List Addr} {cs : List Ch} (m : Nat), Chs K H as cs → Chs K H (as.drop m) (cs.drop m)
  | _, _, 0, h => h
  | _, _, _ + 1, .nil => .nil
  | _, _, m + 1, .cons _ t => t.drop m

/-! slices that begin at the front, that end at the end -/
theorem cutV_to {xs : List V} {m : Nat} (h : m ≤ xs.length) : cutV xs none (some (m : Nat)) = xs.take m := by
  have e : HT.sIx xs.length xs.length (some ((m : Nat) : Int)) = m := by
    unfold HT.sIx
    simp
    split <;> omega
  unfold cutV
  rw [e]
  have e2 : HT.sIx xs.length 0 none = 0 := rfl
  rw [e2]
  rfl
theorem cutV_from {xs : List V} {m : Nat} (h : m ≤ xs.length) : cutV xs (some (m : Nat)) none = xs.drop m := by
  have e : HT.sIx xs.length 0 (some ((m : Nat) : Int)) = m := by
    unfold HT.sIx
    simp
    split <;> omega
  unfold cutV
  rw [e]
  have e2 : HT.sIx xs.length xs.length none = xs.length := rfl
  rw [e2]
  exact List.take_of_length_le (by rw [List.length_drop]; exact Nat.le_refl _)

/-! history.behind(edition) -/
def sp_Hist_behind (K : PySem.W.Frag) : Sp := fun vs H Q _ => ∃ (h : Addr) (cs : List Col) (chs : List Ch) (m : Nat), vs = [.ref h, .int (m : Nat)] ∧ HistAt K H h cs chs ∧ chs.length ≤ 1000 ∧ m ≤ chs.length ∧
  ∀ (l : Addr) (ts : List Addr) (H' : Hp), H l = none → Same H H' → H' l = some (.lst (ts.map V.ref)) → Chs K H' ts (chs.drop m) → Q (.ref l) H'
theorem ok_Hist_behind (T : Tx K mg) : ∃ fd, FnOk P w K mg base CX0 4 (He.ma K (He.ga K "History") "behind") fd ["self", "edition"] (sp_Hist_behind K) ∧ Binds K fd ["self", "edition"] [] := by
  have C1 := ok_is_edition (P := P) (w := w) (base := base) T
  refine mkMeth (fd_History_behind T) sc_History_behind (fun _ _ _ _ _ _ us hl => match us, hl with | [_, _], _ => rfl) (fun vs H Q E h => ?_) (fun cdv A outer s H vs Q E hr h => ?_)
  · obtain ⟨h, cs, chs, m, rfl, _⟩ := h
    rfl
  obtain ⟨h, cs, chs, m, rfl, hq, few, hm, k⟩ := h
  obtain ⟨dx, e, c, b, d, es, ts, hh, he, hE, hc, hC, hb, hd⟩ := id hq
  refine ⟨_, (pss_cons (ps_if (pt_not (pt_val (pcall C1 hr (pa_cons (pv 0) (pa_cons (pv 1) pa_nil))))) (pss_one ps_never) pss_nil)
        (pss_one (ps_ret (pe_slice sl_list (pe_fld (pv 0) rfl) (po_some (pv 1)) po_none)))), ?_⟩
  refine ⟨_, rfl, _, rfl, h, cs, chs, _, _, rfl, hq, few, .base (.int _), _, rfl, ?_⟩
  rw [isEd_nat' hm]
  refine iteF (nxt ⟨_, rfl, h, _, dx, _, _, rfl, hh, cl_History T, na_History__changes T, histFs_changes, _, rfl, _, rfl, c, _, rfl, sqL_of hc, fun l nl => ?_⟩)
  have hl := hC.len
  rw [cutV_from (by rw [List.length_map]; omega), ← List.map_drop]
  exact k l (ts.drop m) _ nl (same_new nl) upd_same ((hC.drop m).keep (same_new nl))
/-! _law_pool -/
def sp_pool (K : PySem.W.Frag) : Sp := fun vs H Q _ => ∃ (a : Addr) (ns : List Int) (k : Int), vs = [.ref a, .int k] ∧ SqL K H a (ns.map V.int) ∧ 0 ≤ k ∧ k ≤ 1000 ∧
  ∀ (p : Addr) (H' : Hp) (z0 z1 : Int), H p = none → Same H H' → H' p = some (.lst [.int z0, .int z1]) → Q (.ref p) H'
theorem ok_pool (T : Tx K mg) : Callee P w K mg base CX0 1 "_law_pool" ["_law_script", "_law_k"] [] (sp_pool K) := by
  refine mkCallee (fd__law_pool T) (mg__law_pool T) sc__law_pool (fun _ _ _ _ _ _ us hl => match us, hl with | [_, _], _ => rfl) (fun vs H Q E h => ?_) (fun cdv A outer s H vs Q E hr h => ?_)
  · obtain ⟨a, ns, k, rfl, _⟩ := h
    rfl
  · obtain ⟨a, ns, k, rfl, hs, k0, k1, kk⟩ := h
    have gi : mg "int" = none := fr_int T
    refine ⟨_, pss_cons (ps_set (i := 2) sc__law_pool.nd rfl (Or.inl rfl) (pe_ifExp (pt_cmpR op_lt (pv 1) (pe_callB call_len (by rfl) (fr_len T) PySem.boot_len (pa_cons (pv 0) pa_nil)) (nomark _))
        (pe_callB (call_max2 rfl) (by rfl) (fr_max T) (by decide +kernel) (pa_cons (pe_callTy call_int1 (by rfl) gi (by decide +kernel) (pa_cons (pe_ix ix_list (pv 0) (pv 1) (fun _ _ => rfl)) pa_nil))
          (pa_cons (pe_callTy call_int1 (by rfl) gi (by decide +kernel) (pa_cons (pe_op op_sub (pe_un un_neg pe_int) (pe_ix ix_list (pv 0) (pv 1) (fun _ _ => rfl))) pa_nil)) pa_nil))) pe_int))
      (pss_cons (ps_set (i := 3) sc__law_pool.nd rfl (Or.inl rfl) (pe_op op_add (pe_op op_modN (pe_callTy call_int1 (by rfl) gi (by decide +kernel) (pa_cons (pe_op op_mul (pe_op op_add (pe_op op_modN (pe_callTy call_int1 (by rfl) gi (by decide +kernel) (pa_cons (pv 2) pa_nil)) pe_int)
        (pe_op op_mul pe_int (pe_op op_add (pv 1) pe_int))) pe_int) pa_nil)) pe_int) pe_int))
      (pss_one (ps_ret (pe_lst (pa_cons (pe_op op_mul (pv 2) (pe_callTy call_int1 (by rfl) gi (by decide +kernel) (pa_cons (pe_cmpR op_ge (pv 2) (pe_op op_pow pe_int pe_int) (nomark _)) pa_nil)))
        (pa_cons (pe_op op_modN (pe_callTy call_int1 (by rfl) gi (by decide +kernel) (pa_cons (pe_op op_mul (pv 3) (pv 3)) pa_nil)) pe_int) pa_nil)))))), ?_⟩
    refine q_asgI (fun R r => ?_) fun z => ?_
    · refine ⟨_, rfl, _, rfl, _, (ns.map V.int).length, rfl, .inl ⟨_, hs, rfl⟩, _, _, rfl, rfl, _, rfl, ?_⟩
      by_cases hk : k < ((ns.map V.int).length : Int)
      · rw [decide_eq_true hk]
        obtain ⟨j, rfl⟩ : ∃ j : Nat, k = (j : Int) := ⟨k.toNat, by omega⟩
        have hj : j < ns.length := by
          rw [List.length_map] at hk
          omega
        have hx : (ns.map V.int)[j]? = some (V.int ns[j]) := by
          rw [List.getElem?_map, List.getElem?_eq_getElem hj]
          rfl
        refine iteT ⟨_, rfl, _, rfl, a, _, _, _, rfl, rfl, hs, at_of (j := j) rfl hx, .inl ⟨_, rfl, _, rfl, _, rfl, _, rfl, a, _, _, _, rfl, rfl, hs, at_of (j := j) rfl hx, _, _, rfl, rfl, .inl ⟨_, rfl, _, _, rfl, r _⟩⟩⟩
      · rw [decide_eq_false hk]
        exact iteF (r 7)
    · refine ⟨_, rfl, .inl ⟨_, rfl, _, _, rfl, rfl, (show (2147483629 : Int) ≠ 0 by decide), _, rfl, _, _, rfl, rfl, _, _, rfl, rfl, .inl ⟨by decide, by decide⟩, _, _, rfl, rfl, _, _, rfl, rfl, .inr ⟨by decide, by decide⟩, .inl ⟨_, rfl, _, _, rfl, rfl, (show (2147483629 : Int) ≠ 0 by decide), _, _, rfl, rfl, ?_⟩⟩⟩
      have m0 := mod_lo (i := (z.fmod 2147483629 + 104729 * (k + 1)) * 48271) (j := 2147483629) (by decide)
      have m1 := mod_hi (i := (z.fmod 2147483629 + 104729 * (k + 1)) * 48271) (j := 2147483629) (by decide)
      refine ⟨_, rfl, _, rfl, _, _, rfl, rfl, ⟨by decide, by decide, by decide⟩, _, _, rfl, rfl, .inr ⟨_, rfl, _, _, rfl, rfl, ?_, _, rfl, _, rfl, _, _, rfl, rfl, .inl ⟨by omega, by omega⟩, .inl ⟨_, rfl, _, _, rfl, rfl, (show (2147483629 : Int) ≠ 0 by decide), (by show 2 ≤ sizeLine; decide), fun p hp => ?_⟩⟩⟩
      · refine .inr ?_
        split
        · exact ⟨by decide, by decide⟩
        · exact ⟨by decide, by decide⟩
      · exact kk p _ _ _ hp (same_new hp) upd_same
/-! _law_draw -/
def sp_draw : Sp := fun vs H Q _ => ∃ (a : Addr) (z0 z1 m : Int), vs = [.ref a, .int m] ∧ H a = some (.lst [.int z0, .int z1]) ∧ 0 < m ∧ m < 1073741824 ∧
  ∀ r y0 y1 : Int, 0 ≤ r → r < m → Q (.int r) (upd H a (.lst [.int y0, .int y1]))
theorem ok_draw (T : Tx K mg) : Callee P w K mg base CX0 1 "_law_draw" ["_law_pool_here", "_law_many"] [] sp_draw := by
  refine mkCallee (fd__law_draw T) (mg__law_draw T) sc__law_draw (fun _ _ _ _ _ _ us hl => match us, hl with | [_, _], _ => rfl) (fun vs H Q E h => ?_) (fun cdv A outer s H vs Q E hr h => ?_)
  · obtain ⟨a, z0, z1, m, rfl, _⟩ := h
    rfl
  · obtain ⟨a, z0, z1, m, rfl, ha, hm, hm2, k⟩ := h
    have gi : mg "int" = none := fr_int T
    refine ⟨_, pss_cons (ps_if (pt_cmpR op_gt (pe_ix ix_list (pv 0) pe_int (fun _ _ => rfl)) pe_int (nomark _))
        (pss_cons (ps_set (i := 2) sc__law_draw.nd rfl (Or.inl rfl) (pe_op op_modN (pe_callTy call_int1 (by rfl) gi (by decide +kernel) (pa_cons (pe_ix ix_list (pv 0) pe_int (fun _ _ => rfl)) pa_nil)) (pv 1)))
        (pss_cons (ps_asg (pe_op op_fdivN (pe_ix ix_list (pv 0) pe_int (fun _ _ => rfl)) (pv 1)) (pg_sub (pv 0) pe_int set_list))
        (pss_one (ps_ret (pv 2))))) pss_nil)
      (pss_cons (ps_asg (pe_op op_modN (pe_callTy call_int1 (by rfl) gi (by decide +kernel) (pa_cons (pe_op op_add (pe_op op_mul (pe_ix ix_list (pv 0) pe_int (fun _ _ => rfl)) pe_int) pe_int) pa_nil)) pe_int) (pg_sub (pv 0) pe_int set_list))
      (pss_one (ps_ret (pe_op op_modN (pe_callTy call_int1 (by rfl) gi (by decide +kernel) (pa_cons (pe_op op_fdivN (pe_op op_modN (pe_callTy call_int1 (by rfl) gi (by decide +kernel)
        (pa_cons (pe_op op_mul (pe_ix ix_list (pv 0) pe_int (fun _ _ => rfl)) (pe_ix ix_list (pv 0) pe_int (fun _ _ => rfl))) pa_nil)) pe_int) pe_int) pa_nil)) (pv 1))))), ?_⟩
    have i0 : atI [V.int z0, V.int z1] 0 = some (V.int z0) := rfl
    have i1 : atI [V.int z0, V.int z1] 1 = some (V.int z1) := rfl
    refine ⟨_, rfl, a, _, _, _, rfl, rfl, sqL_of ha, i0, _, _, rfl, rfl, _, rfl, ?_⟩
    by_cases hz : 0 < z0
    · rw [decide_eq_true hz]
      refine iteT ⟨_, rfl, a, _, _, _, rfl, rfl, sqL_of ha, i0, .inl ⟨_, rfl, _, rfl, _, _, rfl, rfl, (by omega), ?_⟩⟩
      refine ⟨_, rfl, a, _, _, _, rfl, rfl, sqL_of ha, i0, _, rfl, _, _, rfl, rfl, ⟨by omega, by omega⟩, _, rfl, a, _, 0, 0, rfl, rfl, ha, rfl, ?_⟩
      exact ⟨_, rfl, k _ _ _ (mod_lo hm) (mod_hi hm)⟩
    · rw [decide_eq_false hz]
      refine iteF ?_
      refine ⟨_, rfl, a, _, _, _, rfl, rfl, sqL_of ha, i1, _, _, rfl, rfl, .inr ⟨by decide, by decide⟩, _, _, rfl, rfl, .inl ⟨_, rfl, _, _, rfl, rfl, (show (2147483647 : Int) ≠ 0 by decide), ?_⟩⟩
      refine ⟨_, rfl, a, _, 1, 1, rfl, rfl, ha, rfl, ?_⟩
      have hy0 : 0 ≤ (z1 * 48271 + 11).fmod 2147483647 := mod_lo (by decide)
      have hy1 : (z1 * 48271 + 11).fmod 2147483647 < 2147483647 := mod_hi (by decide)
      have u1 : upd H a (.lst ([V.int z0, V.int z1].set 1 (.int ((z1 * 48271 + 11).fmod 2147483647)))) a = some (.lst [.int z0, .int ((z1 * 48271 + 11).fmod 2147483647)]) := upd_same
      have j1 : atI [V.int z0, V.int ((z1 * 48271 + 11).fmod 2147483647)] 1 = some (V.int ((z1 * 48271 + 11).fmod 2147483647)) := rfl
      refine ⟨_, rfl, a, _, _, _, rfl, rfl, sqL_of u1, j1, _, rfl, a, _, _, _, rfl, rfl, sqL_of u1, j1, _, _, rfl, rfl, .inl ⟨by omega, by omega⟩, .inl ⟨_, rfl, _, _, rfl, rfl, (show (2147483629 : Int) ≠ 0 by decide), _, _, rfl, rfl, ⟨by decide, by decide⟩, .inl ⟨_, rfl, _, rfl, _, _, rfl, rfl, (by omega), ?_⟩⟩⟩
      exact k _ _ _ (mod_lo hm) (mod_hi hm)
/-! _law_pick -/
def sp_pick : Sp := fun vs H Q _ => ∃ (a b : Addr) (z0 z1 : Int) (xs : List V), vs = [.ref a, .ref b] ∧ H a = some (.lst [.int z0, .int z1]) ∧ H b = some (.lst xs) ∧ b ≠ a ∧ 0 < xs.length ∧ xs.length < 1000000 ∧
  ∀ (x : V) (y0 y1 : Int), x ∈ xs → Q x (upd H a (.lst [.int y0, .int y1]))
theorem ok_pick (T : Tx K mg) : Callee P w K mg base CX0 2 "_law_pick" ["_law_pool_here", "_law_row"] [] sp_pick := by
  have C1 := ok_draw (P := P) (w := w) (base := base) T
  refine mkCallee (fd__law_pick T) (mg__law_pick T) sc__law_pick (fun _ _ _ _ _ _ us hl => match us, hl with | [_, _], _ => rfl) (fun vs H Q E h => ?_) (fun cdv A outer s H vs Q E hr h => ?_)
  · obtain ⟨a, b, z0, z1, xs, rfl, _⟩ := h
    rfl
  · obtain ⟨a, b, z0, z1, xs, rfl, ha, hb, nb, h0, h1, k⟩ := h
    have gl : mg "len" = none := fr_len T
    refine ⟨_, pss_one (ps_ret (pe_ix ix_list (pv 1) (pcall C1 hr (pa_cons (pv 0) (pa_cons (pe_callB call_len_seq (by rfl) gl PySem.boot_len (pa_cons (pv 1) pa_nil)) pa_nil))) (fun _ _ => rfl))), ?_⟩
    refine ⟨_, rfl, _, rfl, _, rfl, b, xs, rfl, .inl (sqL_of hb), a, z0, z1, _, rfl, ha, (by omega), (by omega), fun r y0 y1 hr0 hr1 => ?_⟩
    obtain ⟨j, rfl⟩ : ∃ j : Nat, r = (j : Int) := ⟨r.toNat, by omega⟩
    have hj : j < xs.length := by omega
    refine ⟨b, xs, _, xs[j], rfl, rfl, sqL_of (by rw [upd_ne nb]; exact hb), at_of (j := j) rfl (List.getElem?_eq_getElem hj), ?_⟩
    exact k _ _ _ (List.getElem_mem hj)
/-! values to a greatest -/
theorem valsTo_in {g : Int} {v : V} (h : v ∈ valsTo g) : isIn g v = true := by
  unfold valsTo at h
  rcases List.mem_cons.mp h with rfl | h
  · rfl
  · unfold rgV at h
    obtain ⟨i, hi, rfl⟩ := List.mem_map.mp h
    rw [List.mem_range] at hi
    show (decide ((0 : Int) ≤ 0 + (i : Int)) && decide ((0 : Int) + (i : Int) ≤ g)) = true
    rw [Bool.and_eq_true]
    exact ⟨decide_eq_true (by omega), decide_eq_true (by omega)⟩
theorem in_vals {g : Int} {v : V} (h : isIn g v = true) : v ∈ valsTo g := by
  cases v with
  | non => exact List.mem_cons_self
  | int u =>
    have h : (decide (0 ≤ u) && decide (u ≤ g)) = true := h
    rw [Bool.and_eq_true] at h
    have g0 := of_decide_eq_true h.1
    have g1 := of_decide_eq_true h.2
    refine List.mem_cons_of_mem _ (List.mem_map.mpr ⟨u.toNat, List.mem_range.mpr (by omega), ?_⟩)
    rw [show (0 : Int) + (u.toNat : Nat) = u by omega]
  | _ => cases h

/-! _law_value -/
def sp_value (m0 : Int) : Sp := fun vs H Q _ => ∃ (p : Addr) (z0 z1 m : Int), vs = [.ref p, .int m] ∧ H p = some (.lst [.int z0, .int z1]) ∧ 0 ≤ m ∧ m ≤ m0 ∧
  ∀ (v : V) (y0 y1 : Int) (H' : Hp), isIn m v = true → But p H H' → H' p = some (.lst [.int y0, .int y1]) → Q v H'
theorem ok_value (T : Tx K mg) : Callee P w K mg base CX0 3 "_law_value" ["_law_pool_here", "_law_most"] [] (sp_value 1000) := by
  have C1 := ok_pick (P := P) (w := w) (base := base) T
  refine mkCallee (fd__law_value T) (mg__law_value T) sc__law_value (fun _ _ _ _ _ _ us hl => match us, hl with | [_, _], _ => rfl) (fun vs H Q E h => ?_) (fun cdv A outer s H vs Q E hr h => ?_)
  · obtain ⟨p, z0, z1, m, rfl, _⟩ := h
    rfl
  · obtain ⟨p, z0, z1, m, rfl, hp, h0, h1, k⟩ := h
    refine ⟨_, pss_one (ps_ret (pcall C1 hr (pa_cons (pv 0) (pa_cons (pe_op op_cat (pe_lst (pa_cons pe_non pa_nil)) (pe_listRg rfl (by rfl) (fr_list T) (prg_1 (by rfl) (fr_range T) (pe_op op_add (pv 1) pe_int)))) pa_nil)))), ?_⟩
    refine ⟨_, rfl, (by show 1 ≤ sizeLine; decide), fun l nl => ⟨_, rfl, _, _, rfl, rfl, _, rfl, .of_le (by omega) (by omega) (by omega) (by omega), fun q nq => ?_⟩⟩
    refine ⟨l, q, _, _, rfl, rfl, same_new nq _ _ upd_same, upd_same, ?_, fun c nc => ?_⟩
    · rw [rgV_length]
      have e : sizeLine = 16777216 := by decide
      rw [e]
      show 1 + (m + 1 - 0).toNat ≤ _
      omega
    have s3 := ((same_new (o := .lst [.non]) nl).trans (same_new (o := .lst (rgV 0 (m + 1))) nq)).trans (same_new (o := .lst ([V.non] ++ rgV 0 (m + 1))) nc)
    have hp3 := s3 _ _ hp
    have ncp : c ≠ p := fun e => by
      have h2 := ((same_new (o := .lst [.non]) nl).trans (same_new (o := .lst (rgV 0 (m + 1))) nq)) _ _ hp
      rw [← e, nc] at h2
      cases h2
    refine ⟨p, c, z0, z1, valsTo m, rfl, hp3, upd_same, ncp, ?_, ?_, fun v y0 y1 hv => k v y0 y1 _ (valsTo_in hv) ((But.of s3).trans But.mut) upd_same⟩
    · unfold valsTo
      rw [List.length_cons]
      omega
    · unfold valsTo
      rw [List.length_cons, rgV_length]
      omega
/-! what a law makes of a value above -/
def cutL (g : Int) (way : Str) (v : V) : V := match v with
  | .int j => if g < j then (if way = "cut" then .int g else if way = "none" then .non else .str "barred") else .int j
  | v => v

/-! _law_cut -/
theorem merge3 (x y z : V) : mergeK [] [(Sum.inr "cut", x), (Sum.inr "none", y), (Sum.inr "refuse", z)] = ([(Sum.inr "cut", x), (Sum.inr "none", y), (Sum.inr "refuse", z)] : List (Key × V)) := by
  have h1 : ¬ ((Sum.inr "cut" : Key) = (Sum.inr "none" : Key)) := by decide +kernel
  have h2 : ¬ ((Sum.inr "cut" : Key) = (Sum.inr "refuse" : Key)) := by decide +kernel
  have h3 : ¬ ((Sum.inr "none" : Key) = (Sum.inr "refuse" : Key)) := by decide +kernel
  simp [mergeK, putK, h1, h2, h3]
theorem val3 {x y z : V} {way : Str} (hw : isWy way = true) : valV ([(Sum.inr "cut", x), (Sum.inr "none", y), (Sum.inr "refuse", z)] : List (Key × V)) (Sum.inr way) = some (if way = "cut" then x else if way = "none" then y else z) := by
  have h1 : ¬ ((Sum.inr "cut" : Key) = (Sum.inr "none" : Key)) := by decide +kernel
  have h2 : ¬ ((Sum.inr "cut" : Key) = (Sum.inr "refuse" : Key)) := by decide +kernel
  have h3 : ¬ ((Sum.inr "none" : Key) = (Sum.inr "refuse" : Key)) := by decide +kernel
  have g1 : ¬ (("none" : Str) = "cut") := by decide +kernel
  have g2 : ¬ (("refuse" : Str) = "cut") := by decide +kernel
  have g3 : ¬ (("refuse" : Str) = "none") := by decide +kernel
  have h' : (decide (way = "cut") || (decide (way = "none") || decide (way = "refuse"))) = true := hw
  rw [Bool.or_eq_true, Bool.or_eq_true, decide_eq_true_iff, decide_eq_true_iff, decide_eq_true_iff] at h'
  rcases h' with rfl | rfl | rfl
  · rw [if_pos rfl]
    exact valV_pos rfl
  · rw [if_neg g1, if_pos rfl]
    simp [valV, h1]
  · rw [if_neg g2, if_neg g3]
    simp [valV, h2, h3]
def sp_cut (K : PySem.W.Frag) : Sp := fun vs H Q _ => ∃ (t : Addr) (n way : Str) (g : Int) (v : V), vs = [v, .ref t] ∧ ChAt K H t (.great n g way) ∧ isWy way = true ∧ valOk v = true ∧ ∀ H', Same H H' → Q (cutL g way v) H'
theorem ok_cut (T : Tx K mg) : Callee P w K mg base CX0 1 "_law_cut" ["_law_value_here", "_law_change_here"] [] (sp_cut K) := by
  refine mkCallee (fd__law_cut T) (mg__law_cut T) sc__law_cut (fun _ _ _ _ _ _ us hl => match us, hl with | [_, _], _ => rfl) (fun vs H Q E h => ?_) (fun cdv A outer s H vs Q E hr h => ?_)
  · obtain ⟨t, n, way, g, v, rfl, _⟩ := h
    rfl
  · obtain ⟨t, n, way, g, v, rfl, ht, hw, hv, k⟩ := h
    have i2 : atI (Ch.great n g way).toV 2 = some (.int g) := rfl
    have i3 : atI (Ch.great n g way).toV 3 = some (.str way) := rfl
    refine ⟨_, pss_cons (ps_if (PW.pt (pw_or (pt_cmpR op_isN (pv 0) pe_non (nomark _)) (pw_or1 (pt_cmpR op_le (pv 0) (pe_ix ix_tup (pv 1) pe_int (fun _ _ => rfl)) (nomark _))))) (pss_one (ps_ret (pv 0))) pss_nil)
      (pss_one (ps_ret (pe_dget (hu_of hr) (pe_disp (pps_cons pe_str (pe_ix ix_tup (pv 1) pe_int (fun _ _ => rfl)) (pps_cons pe_str pe_non (pps_cons pe_str pe_str pps_nil))) (by rfl) (by rfl) (fun z => by cases z) (by decide)) (pe_ix ix_tup (pv 1) pe_int (fun _ _ => rfl)) (fun _ _ => rfl)))), ?_⟩
    refine ⟨_, rfl, rfl, _, rfl, ?_⟩
    cases v with
    | non => exact iteDT rfl (iteT ⟨_, rfl, k H (Same.refl _)⟩)
    | int j =>
      refine iteD (by intro z; cases z) ⟨_, rfl, _, rfl, t, _, 2, _, rfl, rfl, ht, i2, _, _, rfl, rfl, _, rfl, ?_⟩
      by_cases hj : j ≤ g
      · refine iteDT hj ⟨_, rfl, ?_⟩
        have e : cutL g way (.int j) = .int j := if_neg (by omega)
        rw [← e]
        exact k H (Same.refl _)
      · refine iteD hj (nxt ?_)
        have e : cutL g way (.int j) = (if way = "cut" then .int g else if way = "none" then .non else .str "barred") := if_pos (by omega)
        refine fun p np => ⟨_, rfl, t, _, 2, _, rfl, rfl, same_tup (same_new np) ht, i2, upd_same, [(Sum.inr "cut", V.int g), (Sum.inr "none", V.non), (Sum.inr "refuse", V.str "barred")], rfl, (by show 3 ≤ 15; decide), ?_⟩
        rw [upd_upd, merge3]
        have s2 : Same H (upd H p (.dK [(Sum.inr "cut", V.int g), (Sum.inr "none", V.non), (Sum.inr "refuse", V.str "barred")])) := same_new np
        refine ⟨_, rfl, t, _, 3, _, rfl, rfl, same_tup s2 ht, i3, p, cutL g way (.int j), rfl, ?_, k _ s2⟩
        rw [e, ← val3 hw]
        exact DGet.k (k := Sum.inr way) upd_same
    | _ => cases hv
/-! _law_col_then, where the change can be done; a law's column as a tuple -/
def LcAt (K : PySem.W.Frag) (H : Hp) (a : Addr) (c : Col) : Prop := H a = some (.tup [.str c.name, .int c.top, c.dflt, .int c.num])
theorem LcAt.keep {K : PySem.W.Frag} {H H' : Hp} {a : Addr} {c : Col} (s : Same H H') (h : LcAt K H a c) : LcAt K H' a c := s _ _ h
theorem cut_chg {c : Col} {n : Str} {g : Int} {way : Str} (hn : c.name = n) (hd : valOk c.dflt = true) (h : isIn g (chgV c.name (.great n g way) c.dflt) = true) : cutL g way c.dflt = chgV c.name (.great n g way) c.dflt := by
  unfold chgV at h ⊢
  rw [if_pos (show (Ch.great n g way).name = c.name from hn.symm)] at h ⊢
  cases e : c.dflt with
  | non => rfl
  | int j =>
    rw [e] at h
    have h : isIn g (if g < j then abv g way else .int j) = true := h
    show (if g < j then (if way = "cut" then V.int g else if way = "none" then .non else .str "barred") else .int j) = (if g < j then abv g way else .int j)
    by_cases q : g < j
    · rw [if_pos q] at h
      rw [if_pos q, if_pos q]
      unfold abv at h ⊢
      by_cases q1 : way = "cut"
      · rw [if_pos q1, if_pos q1]
      · rw [if_neg q1] at h
        rw [if_neg q1, if_neg q1]
        by_cases q2 : way = "none"
        · rw [if_pos q2, if_pos q2]
        · rw [if_neg q2] at h
          cases h
    · rw [if_neg q, if_neg q]
  | _ => rw [e] at hd; cases hd
def sp_col_then (K : PySem.W.Frag) : Sp := fun vs H Q _ => ∃ (a t : Addr) (c : Col) (ch : Ch), vs = [.ref a, .ref t] ∧ LcAt K H a c ∧ ChAt K H t ch ∧ c.name = ch.name ∧ ch.fits = true ∧ valOk c.dflt = true ∧ isIn (chgC c ch).top (chgC c ch).dflt = true ∧
  ∀ (a' : Addr) (H' : Hp), Same H H' → LcAt K H' a' (chgC c ch) → Q (.ref a') H'
theorem ok_col_then (T : Tx K mg) : Callee P w K mg base CX0 2 "_law_col_then" ["_law_col", "_law_change_here"] [] (sp_col_then K) := by
  have C1 := ok_cut (P := P) (w := w) (base := base) T
  refine mkCallee (fd__law_col_then T) (mg__law_col_then T) sc__law_col_then (fun _ _ _ _ _ _ us hl => match us, hl with | [_, _], _ => rfl) (fun vs H Q E h => ?_) (fun cdv A outer s H vs Q E hr h => ?_)
  · obtain ⟨a, t, c, ch, rfl, _⟩ := h
    rfl
  · obtain ⟨a, t, c, ch, rfl, ha, ht, hn, hf, hd, hdf, k⟩ := h
    have nd := sc__law_col_then.nd
    refine ⟨_, pss_cons (ps_asg (pv 0) (pg_tup rfl (pgs_cons (pg_name (i := 2) nd rfl (Or.inl rfl)) (pgs_cons (pg_name (i := 3) nd rfl (Or.inl rfl)) (pgs_cons (pg_name (i := 4) nd rfl (Or.inl rfl)) (pgs_cons (pg_name (i := 5) nd rfl (Or.inl rfl)) pgs_nil))))))
      (pss_cons (ps_if (pt_cmpR op_eq (pe_ix ix_tup (pv 1) pe_int (fun _ _ => rfl)) pe_str (nomark _)) (pss_one (ps_ret (pe_tup (pa_cons (pe_ix ix_tup (pv 1) pe_int (fun _ _ => rfl)) (pa_cons (pv 3) (pa_cons (pv 4) (pa_cons (pv 5) pa_nil))))))) pss_nil)
      (pss_cons (ps_if (pt_cmpR op_eq (pe_ix ix_tup (pv 1) pe_int (fun _ _ => rfl)) pe_str (nomark _)) (pss_one (ps_ret (pe_tup (pa_cons (pv 2) (pa_cons (pv 3) (pa_cons (pe_ix ix_tup (pv 1) pe_int (fun _ _ => rfl)) (pa_cons (pv 5) pa_nil))))))) pss_nil)
      (pss_cons (ps_if (pt_cmpR op_eq (pe_ix ix_tup (pv 1) pe_int (fun _ _ => rfl)) pe_str (nomark _)) (pss_one (ps_ret (pe_tup (pa_cons (pv 2) (pa_cons (pe_ix ix_tup (pv 1) pe_int (fun _ _ => rfl)) (pa_cons (pcall C1 hr (pa_cons (pv 4) (pa_cons (pv 1) pa_nil))) (pa_cons (pv 5) pa_nil))))))) pss_nil)
      (pss_one (ps_ret (pv 0)))))), ?_⟩
    refine ⟨_, rfl, a, _, rfl, sqT_of ha, rfl, _, _, rfl, _, _, rfl, _, _, rfl, _, _, rfl, rfl, ?_⟩
    have s4 : (4 : Nat) ≤ sizeLine := by decide
    refine ⟨_, rfl, t, _, 0, _, rfl, rfl, ht, ch.at0, rfl, _, rfl, ?_⟩
    cases ch with
    | rename n m =>
      have i2 : atI (Ch.rename n m).toV 2 = some (.str m) := rfl
      exact iteDT rfl ⟨_, rfl, t, _, 2, _, rfl, rfl, ht, i2, _, rfl, _, rfl, _, rfl, s4, fun p np => k p _ (same_new np) upd_same⟩
    | dflt n v =>
      have i2 : atI (Ch.dflt n v).toV 2 = some v := rfl
      exact iteD (nes (show ("default" : Str) ≠ "rename" by decide +kernel)) ⟨_, rfl, t, _, 0, _, rfl, rfl, ht, (Ch.dflt n v).at0, rfl, _, rfl, iteDT rfl ⟨_, rfl, _, rfl, _, rfl, t, _, 2, _, rfl, rfl, ht, i2, _, rfl, s4, fun p np => k p _ (same_new np) upd_same⟩⟩
    | great n g way =>
      have i2 : atI (Ch.great n g way).toV 2 = some (.int g) := rfl
      have hw : isWy way = true := by
        have f : (isNm (.str n) && (isGr (.int g) && isWy way)) = true := hf
        rw [Bool.and_eq_true, Bool.and_eq_true] at f
        exact f.2.2
      have e : cutL g way c.dflt = chgV c.name (.great n g way) c.dflt := cut_chg hn hd hdf
      refine iteD (nes (show ("greatest" : Str) ≠ "rename" by decide +kernel)) ⟨_, rfl, t, _, 0, _, rfl, rfl, ht, (Ch.great n g way).at0, rfl, _, rfl, iteD (nes (show ("greatest" : Str) ≠ "default" by decide +kernel)) ⟨_, rfl, t, _, 0, _, rfl, rfl, ht, (Ch.great n g way).at0, rfl, _, rfl, iteDT rfl ⟨_, rfl, _, rfl, t, _, 2, _, rfl, rfl, ht, i2, _, rfl, _, rfl, t, n, way, g, c.dflt, rfl, ht, hw, hd, fun H1 s1 => ⟨_, rfl, s4, fun p np => k p _ (s1.trans (same_new np)) ?_⟩⟩⟩⟩
      rw [e]
      exact upd_same
    | add n g d =>
      exact iteD (nes (show ("add" : Str) ≠ "rename" by decide +kernel)) ⟨_, rfl, t, _, 0, _, rfl, rfl, ht, (Ch.add n g d).at0, rfl, _, rfl, iteD (nes (show ("add" : Str) ≠ "default" by decide +kernel)) ⟨_, rfl, t, _, 0, _, rfl, rfl, ht, (Ch.add n g d).at0, rfl, _, rfl, iteD (nes (show ("add" : Str) ≠ "greatest" by decide +kernel)) ⟨_, rfl, k a H (Same.refl _) ha⟩⟩⟩
    | drop n =>
      exact iteD (nes (show ("drop" : Str) ≠ "rename" by decide +kernel)) ⟨_, rfl, t, _, 0, _, rfl, rfl, ht, (Ch.drop n).at0, rfl, _, rfl, iteD (nes (show ("drop" : Str) ≠ "default" by decide +kernel)) ⟨_, rfl, t, _, 0, _, rfl, rfl, ht, (Ch.drop n).at0, rfl, _, rfl, iteD (nes (show ("drop" : Str) ≠ "greatest" by decide +kernel)) ⟨_, rfl, k a H (Same.refl _) ha⟩⟩⟩
    | fill n i =>
      exact iteD (nes (show ("fill" : Str) ≠ "rename" by decide +kernel)) ⟨_, rfl, t, _, 0, _, rfl, rfl, ht, (Ch.fill n i).at0, rfl, _, rfl, iteD (nes (show ("fill" : Str) ≠ "default" by decide +kernel)) ⟨_, rfl, t, _, 0, _, rfl, rfl, ht, (Ch.fill n i).at0, rfl, _, rfl, iteD (nes (show ("fill" : Str) ≠ "greatest" by decide +kernel)) ⟨_, rfl, k a H (Same.refl _) ha⟩⟩⟩
/-! _law_then, where the change can be done -/
inductive LCols (K : PySem.W.Frag) (H : Hp) : List Addr → List Col → Prop
  | nil : LCols K H [] []
  | cons {a : Addr} {as : List Addr} {c : Col} {cs : List Col} : LcAt K H a c → LCols K H as cs → LCols K H (a :: as) (c :: cs)
theorem LCols.keep {K : PySem.W.Frag} {H H' : Hp} (s : Same H H') : ∀ {as : List Addr} {cs : List Col}, LCols K H as cs → LCols K H' as cs
  | _, _, .nil => .nil
  | _, _, .cons h t => .cons (h.keep s) (t.keep s)
theorem LCols.len {K : PySem.W.Frag} {H : Hp} : ∀ {as : List Addr} {cs : List Col}, LCols K H as cs → as.length = cs.length
  | _, _, .nil => rfl
  | _, _, .cons _ t => congrArg Nat.succ t.len
theorem LCols.at_ {K : PySem.W.Frag} {H : Hp} : ∀ {as : List Addr} {cs : List Col} {i : Nat} {a : Addr}, LCols K H as cs → as[i]? = some a → ∃ c, cs[i]? = some c ∧ LcAt K H a c
  | _, _, _, _, .nil, e => by simp at e
  | _, _, 0, _, .cons h t, e => by
    simp at e
    subst e
    exact ⟨_, rfl, h⟩
  | _, _, i + 1, a, .cons h t, e => by
    obtain ⟨c, h1, h2⟩ := LCols.at_ (i := i) (a := a) t (by simpa using e)
    exact ⟨c, by simpa using h1, h2⟩
theorem LCols.app {K : PySem.W.Frag} {H : Hp} : ∀ {as bs : List Addr} {cs ds : List Col}, LCols K H as cs → LCols K H bs ds → LCols K H (as ++ bs) (cs ++ ds)
  | _, _, _, _, .nil, h => h
  | _, _, _, _, .cons h t, q => .cons h (t.app q)
theorem LCols.filter {K : PySem.W.Frag} {H : Hp} (f : Col → Bool) : ∀ {as : List Addr} {cs : List Col}, LCols K H as cs → LCols K H (keepA f as cs) (cs.filter f)
  | _, _, .nil => .nil
  | _, _, .cons (c := c) h t => by
    have ih := t.filter f
    unfold keepA
    rw [List.filter_cons]
    split
    · exact .cons h ih
    · exact ih
theorem LCols.of_vs {K : PySem.W.Frag} {H : Hp} : ∀ {ys : List V} {cs : List Col}, ys.length = cs.length → (∀ (i : Nat) (y : V), ys[i]? = some y → ∃ a c, y = .ref a ∧ cs[i]? = some c ∧ LcAt K H a c) → ∃ as, ys = as.map V.ref ∧ LCols K H as cs
  | [], [], _, _ => ⟨[], rfl, .nil⟩
  | [], _ :: _, h, _ => by cases h
  | _ :: _, [], h, _ => by cases h
  | y :: ys, c :: cs, h, f => by
    obtain ⟨a, c', rfl, e, hc⟩ := f 0 y rfl
    obtain rfl : c = c' := Option.some.inj e
    obtain ⟨as, rfl, ht⟩ := LCols.of_vs (ys := ys) (cs := cs) (Nat.succ.inj h) fun i y' h1 => f (i + 1) y' (by simpa using h1)
    exact ⟨a :: as, rfl, .cons hc ht⟩
theorem LcAt.keepNL {K : PySem.W.Frag} {H H' : Hp} {a : Addr} {c : Col} (s : KeepNL H H') (h : LcAt K H a c) : LcAt K H' a c := s _ _ (fun _ z => by cases z) h
theorem LcAt.name_ {K : PySem.W.Frag} {H : Hp} {a : Addr} {c c' : Col} (h : LcAt K H a c) (h' : LcAt K H a c') : c.name = c'.name := by
  unfold LcAt at h h'
  rw [h] at h'
  have e := HO.tup.inj (Option.some.inj h')
  exact V.str.inj (List.cons.inj e).1
open Classical in
/-- whether the column at x stays -/
noncomputable def stays (K : PySem.W.Frag) (H : Hp) (n : Str) (x : V) : Bool := decide (∃ (a : Addr) (c : Col), x = .ref a ∧ LcAt K H a c ∧ ¬ c.name = n)
open Classical in
theorem stays_eq {K : PySem.W.Frag} {H : Hp} {n : Str} {a : Addr} {c : Col} (h : LcAt K H a c) : stays K H n (.ref a) = !decide (c.name = n) := by
  unfold stays
  by_cases e : c.name = n
  · rw [decide_eq_true e, decide_eq_false]
    · rfl
    · rintro ⟨a', c', e', h', ne⟩
      cases e'
      exact ne ((h'.name_ h).trans e)
  · rw [decide_eq_false e, decide_eq_true]
    · rfl
    · exact ⟨a, c, rfl, h, e⟩
theorem keepL_map {K : PySem.W.Frag} {H : Hp} (f : Col → Bool) (g : V → Bool) : ∀ {as : List Addr} {cs : List Col}, LCols K H as cs → (∀ a c, LcAt K H a c → a ∈ as → g (.ref a) = f c) → ((as.map V.ref).filter g).map (fun x => x) = (keepA f as cs).map V.ref
  | _, _, .nil, _ => rfl
  | _, _, .cons (a := a) (c := c) h t, q => by
    have ih := keepL_map f g t fun a' c' h' hm => q a' c' h' (List.mem_cons_of_mem _ hm)
    have e := q a c h List.mem_cons_self
    rw [List.map_id'] at ih ⊢
    unfold keepA
    rw [List.map_cons, List.filter_cons, e]
    split
    · rw [List.map_cons, ih]
    · exact ih
def sp_then (K : PySem.W.Frag) : Sp := fun vs H Q _ => ∃ (l t : Addr) (as : List Addr) (cs : List Col) (ch : Ch) (num : Int), vs = [.ref l, .ref t, .int num] ∧ H l = some (.lst (as.map V.ref)) ∧ LCols K H as cs ∧ ChAt K H t ch ∧ as.length ≤ 1000 ∧ ch.fits = true ∧
  (∀ c ∈ cs, valOk c.dflt = true) ∧ (∀ c ∈ behind cs ch num, isIn c.top c.dflt = true) ∧ ∀ (l' : Addr) (as' : List Addr) (H' : Hp), H l' = none → Same H H' → H' l' = some (.lst (as'.map V.ref)) → LCols K H' as' (behind cs ch num) → Q (.ref l') H'
theorem ok_then (T : Tx K mg) : Callee P w K mg base CX0 3 "_law_then" ["_law_cols_here", "_law_change_here", "_law_seat"] [] (sp_then K) := by
  have C1 := ok_col_then (P := P) (w := w) (base := base) T
  refine mkCallee (fd__law_then T) (mg__law_then T) sc__law_then (fun _ _ _ _ _ _ us hl => match us, hl with | [_, _, _], _ => rfl) (fun vs H Q E h => ?_) (fun cdv A outer s H vs Q E hr h => ?_)
  · obtain ⟨l, t, as, cs, ch, num, rfl, _⟩ := h
    rfl
  · obtain ⟨l, t, as, cs, ch, num, rfl, hl, hc, ht, hlen, hf, okc, okb, k⟩ := h
    have nd := sc__law_then.nd
    refine ⟨_, pss_cons (ps_if (pt_cmpR op_eq (pe_ix ix_tup (pv 1) pe_int (fun _ _ => rfl)) pe_str (nomark _)) (pss_one (ps_ret (pe_op op_cat (pv 0) (pe_lst (pa_cons (pe_tup (pa_cons (pe_ix ix_tup (pv 1) pe_int (fun _ _ => rfl)) (pa_cons (pe_ix ix_tup (pv 1) pe_int (fun _ _ => rfl)) (pa_cons (pe_ix ix_tup (pv 1) pe_int (fun _ _ => rfl)) (pa_cons (pv 2) pa_nil))))) pa_nil))))) pss_nil)
      (pss_cons (ps_if (pt_cmpR op_eq (pe_ix ix_tup (pv 1) pe_int (fun _ _ => rfl)) pe_str (nomark _)) (pss_one (ps_ret (pe_lc (own := [("_law_col", 3)]) (g := gName 3) (tt := tTest (tOp rNe (tOp (rIxT K) (tVar 3) (tC (.int 0))) (tOp (rIxT K) (tVar 1) (tC (.int 1))))) (te := tVar 3) rfl nd (pi_list (pv 0)) (blkOk_by (N := ["_law_cols_here", "_law_change_here", "_law_seat", "_law_col"]) (sc := defScope s__law_then) (by decide +kernel))
          (fun _ _ _ _ _ => pg_name (i := 3) nd rfl (Or.inl rfl)) (fun _ _ _ _ _ => pts_one (pt_cmpR op_ne (pe_ix ix_tup (pv 3) pe_int (fun _ _ => rfl)) (pe_ix ix_tup (pv 1) pe_int (fun _ _ => rfl)) (nomark _))) (fun _ _ _ _ _ => pv 3)))) pss_nil)
      (pss_one (ps_ret (pe_lc (own := [("_law_col", 3)]) (g := gName 3) (tt := tYes) (te := tIf (tTest (tOp rEq (tOp (rIxT K) (tVar 3) (tC (.int 0))) (tOp (rIxT K) (tVar 1) (tC (.int 1))))) (tCall (sp_col_then K) [] E0 (tCons (tVar 3) (tCons (tVar 1) tNil))) (tVar 3)) rfl nd (pi_list (pv 0)) (blkOk_by (N := ["_law_cols_here", "_law_change_here", "_law_seat", "_law_col"]) (sc := defScope s__law_then) (by decide +kernel))
          (fun _ _ _ _ _ => pg_name (i := 3) nd rfl (Or.inl rfl)) (fun _ _ _ _ _ => pts_nil) (fun _ _ _ _ _ => pe_ifExp (pt_cmpR op_eq (pe_ix ix_tup (pv 3) pe_int (fun _ _ => rfl)) (pe_ix ix_tup (pv 1) pe_int (fun _ _ => rfl)) (nomark _)) (pcall C1 hr (pa_cons (pv 3) (pa_cons (pv 1) pa_nil))) (pv 3)))))), ?_⟩
    refine ⟨_, rfl, t, _, 0, _, rfl, rfl, ht, ch.at0, rfl, _, rfl, ?_⟩
    have other : ∀ ch' : Ch, ch' = ch → behind cs ch' num = cs.map (fun c => if c.name = ch'.name then chgC c ch' else c) → tRet (tLc (iList K (tVar 0)) (gName 3) tYes (tIf (tTest (tOp rEq (tOp (rIxT K) (tVar 3) (tC (.int 0))) (tOp (rIxT K) (tVar 1) (tC (.int 1))))) (tCall (sp_col_then K) [] E0 (tCons (tVar 3) (tCons (tVar 1) tNil))) (tVar 3)) (List.map (fun x => x.2) [(("_law_col" : Str), 3)]))
        { nx := fun _ H' => Q V.non H', rt := Q } [some (.ref l), some (.ref t), some (.int num), none] H := fun ch' e0 e1 => by
      subst e0
      refine tlc_G (fun i y H' => ∃ a c, y = .ref a ∧ (behind cs ch' num)[i]? = some c ∧ LcAt K H' a c) (fun i y H1 H2 s2 ⟨a, c, h1, h2, h3⟩ => ⟨a, c, h1, h2, h3.keepNL s2⟩) (fun R h => ⟨_, rfl, h l H (Same.refl _) (sqL_of hl)⟩) (by rw [List.length_map]; omega) (fun _ => rfl) ?_ ?_
      · intro i x hx H1 s1 R hR
        rw [List.getElem?_map] at hx
        cases ha : as[i]? with
        | none =>
          rw [ha] at hx
          cases hx
        | some a =>
          rw [ha] at hx
          obtain rfl := Option.some.inj hx
          obtain ⟨c, hci, hat⟩ := hc.at_ ha
          have hb : (behind cs ch' num)[i]? = some (if c.name = ch'.name then chgC c ch' else c) := by rw [e1, List.getElem?_map, hci]; rfl
          have ht1 := ht.keep s1
          refine ⟨_, rfl, a, _, 0, _, rfl, rfl, sqT_of (hat.keep s1), rfl, _, rfl, t, _, 1, _, rfl, rfl, ht1, ch'.at1, rfl, _, rfl, ?_⟩
          by_cases e : c.name = ch'.name
          · rw [if_pos e] at hb
            rw [decide_eq_true (show V.str c.name = V.str ch'.name by rw [e])]
            exact iteT ⟨_, rfl, _, rfl, a, t, c, ch', rfl, hat.keep s1, ht1, e, hf, okc _ (List.mem_of_getElem? hci), okb _ (List.mem_of_getElem? hb), fun a' H2 s2 h2 => hR _ _ s2 ⟨a', _, rfl, hb, h2⟩⟩
          · rw [if_neg e] at hb
            rw [decide_eq_false (fun z => e (V.str.inj z))]
            exact iteF ⟨_, rfl, hR _ _ (Same.refl _) ⟨a, _, rfl, hb, hat.keep s1⟩⟩
      · intro D ys H' nD s' hD hlen' hy
        obtain ⟨as', rfl, hcs⟩ := LCols.of_vs (by rw [hlen', List.length_map, hc.len, e1, List.length_map]) hy
        exact k D as' H' nD s' hD hcs
    cases ch with
    | add n g d =>
      have i1 : atI (Ch.add n g d).toV 1 = some (.str n) := rfl
      have i2 : atI (Ch.add n g d).toV 2 = some (.int g) := rfl
      have i3 : atI (Ch.add n g d).toV 3 = some d := rfl
      refine iteDT rfl ⟨_, rfl, _, rfl, t, _, 1, _, rfl, rfl, ht, i1, _, rfl, t, _, 2, _, rfl, rfl, ht, i2, _, rfl, t, _, 3, _, rfl, rfl, ht, i3, _, rfl, (by show 4 ≤ sizeLine; decide), fun p np => ⟨by show 1 ≤ sizeLine; decide, fun q nq => ⟨l, q, as.map V.ref, [.ref p], rfl, rfl, ?_, upd_same, ?_, fun l' nl' => ?_⟩⟩⟩
      · exact same_new nq _ _ (same_new np _ _ hl)
      · rw [List.length_map]
        exact Nat.le_trans (Nat.add_le_add_right hlen 1) (by decide)
      · have s2 := (same_new (o := .lst [.ref p]) nq).trans (same_new (o := .lst (as.map V.ref ++ [.ref p])) nl')
        have s5 := (same_new (o := .tup [.str n, .int g, d, .int num]) np).trans s2
        refine k l' (as ++ [p]) _ ?_ s5 (by rw [List.map_append]; exact upd_same) ((hc.keep s5).app (.cons (s2 _ _ upd_same) .nil))
        exact ((same_new np).trans (same_new nq)).free nl'
    | drop n =>
      refine iteD (nes (show ("drop" : Str) ≠ "add" by decide +kernel)) ⟨_, rfl, t, _, 0, _, rfl, rfl, ht, (Ch.drop n).at0, rfl, _, rfl, iteDT rfl ?_⟩
      refine tlc_L (stays K H n) (fun x => x) (fun R h => ⟨_, rfl, h l H (Same.refl _) (sqL_of hl)⟩) (by rw [List.length_map]; omega) (fun _ => rfl) ?_ (fun x _ _ H1 _ R h => ⟨_, rfl, h H1 (Same.refl _)⟩) ?_
      · intro x hx H1 s1 R hR
        obtain ⟨a, ha, rfl⟩ := List.mem_map.mp hx
        obtain ⟨i, hi⟩ := List.mem_iff_getElem?.mp ha
        obtain ⟨c, hc1, hat⟩ := hc.at_ hi
        rw [stays_eq hat] at hR
        have e : decide (V.str c.name = V.str n) = decide (c.name = n) := by
          by_cases e : c.name = n
          · rw [decide_eq_true e, decide_eq_true (by rw [e])]
          · rw [decide_eq_false e, decide_eq_false (fun z => e (V.str.inj z))]
        rw [← e] at hR
        exact ⟨_, rfl, a, _, 0, _, rfl, rfl, sqT_of (hat.keep s1), rfl, _, rfl, t, _, 1, _, rfl, rfl, ht.keep s1, (Ch.drop n).at1, rfl, _, rfl, hR _ (Same.refl _)⟩
      · intro D H' nD s' hD
        rw [keepL_map (fun c => !decide (c.name = n)) (stays K H n) hc fun a c h _ => stays_eq h] at hD
        exact k D _ H' nD s' hD ((hc.keep s').filter _)
    | rename n m =>
      exact iteD (nes (show ("rename" : Str) ≠ "add" by decide +kernel)) ⟨_, rfl, t, _, 0, _, rfl, rfl, ht, (Ch.rename n m).at0, rfl, _, rfl, iteD (nes (show ("rename" : Str) ≠ "drop" by decide +kernel)) (other _ rfl rfl)⟩
    | great n g way =>
      exact iteD (nes (show ("greatest" : Str) ≠ "add" by decide +kernel)) ⟨_, rfl, t, _, 0, _, rfl, rfl, ht, (Ch.great n g way).at0, rfl, _, rfl, iteD (nes (show ("greatest" : Str) ≠ "drop" by decide +kernel)) (other _ rfl rfl)⟩
    | dflt n v =>
      exact iteD (nes (show ("default" : Str) ≠ "add" by decide +kernel)) ⟨_, rfl, t, _, 0, _, rfl, rfl, ht, (Ch.dflt n v).at0, rfl, _, rfl, iteD (nes (show ("default" : Str) ≠ "drop" by decide +kernel)) (other _ rfl rfl)⟩
    | fill n v =>
      exact iteD (nes (show ("fill" : Str) ≠ "add" by decide +kernel)) ⟨_, rfl, t, _, 0, _, rfl, rfl, ht, (Ch.fill n v).at0, rfl, _, rfl, iteD (nes (show ("fill" : Str) ≠ "drop" by decide +kernel)) (other _ rfl rfl)⟩
/-! _law_word: the same word as hindrance's -/
theorem inV_names {cs : List Col} {n : Str} : inV (.str n) ((cs.map (·.name)).map V.str) = (cs.find? (isN n)).isSome := by
  cases h : cs.find? (isN n) with
  | none => exact inV_new (find_no h)
  | some c =>
    show inV (.str n) ((cs.map (·.name)).map V.str) = true
    unfold inV
    rw [List.any_eq_true]
    have hc := List.find?_some h
    exact ⟨.str c.name, List.mem_map.mpr ⟨c.name, List.mem_map.mpr ⟨c, List.mem_of_find?_eq_some h, rfl⟩, rfl⟩, by
      have : c.name = n := of_decide_eq_true hc
      show (c.name == n) = true
      rw [this]
      exact beq_self_eq_true _⟩
theorem names_of {ys : List V} {cs : List Col} (hl : ys.length = cs.length) (h : ∀ (i : Nat) (y : V), ys[i]? = some y → ∃ c, cs[i]? = some c ∧ y = .str c.name) : ys = (cs.map (·.name)).map V.str := by
  refine List.ext_getElem? fun i => ?_
  rw [List.getElem?_map, List.getElem?_map]
  cases e : ys[i]? with
  | none =>
    have : cs[i]? = none := List.getElem?_eq_none (by have := List.getElem?_eq_none_iff.mp e; omega)
    rw [this]
    rfl
  | some y =>
    obtain ⟨c, h1, h2⟩ := h i y e
    rw [h1, h2]
    rfl
theorem find_at {n : Str} : ∀ {cs : List Col} {e : Col}, cs.find? (isN n) = some e → ∃ j : Nat, cs[j]? = some e ∧ e.name = n ∧ ∀ (m : Nat) (c : Col), m < j → cs[m]? = some c → ¬ c.name = n
  | [], _, h => by simp at h
  | c :: cs, e, h => by
    rw [List.find?_cons] at h
    by_cases q : c.name = n
    · rw [show isN n c = true from decide_eq_true q] at h
      obtain rfl := Option.some.inj h
      exact ⟨0, rfl, q, fun m c hm => by omega⟩
    · rw [show isN n c = false from decide_eq_false q] at h
      obtain ⟨j, h1, h2, h3⟩ := find_at h
      refine ⟨j + 1, by simpa using h1, h2, fun m c' hm hc => ?_⟩
      cases m with
      | zero =>
        obtain rfl : c = c' := by simpa using hc
        exact q
      | succ m => exact h3 m c' (by omega) (by simpa using hc)
theorem names_flat (cs : List Col) : ((cs.map (·.name)).map V.str).all flatV = true := by
  rw [List.all_map]
  exact List.all_eq_true.mpr fun _ _ => rfl
theorem names_at {cs : List Col} {j : Nat} {e : Col} (h : cs[j]? = some e) : ((cs.map (·.name)).map V.str)[j]? = some (.str e.name) := by
  rw [List.getElem?_map, List.getElem?_map, h]
  rfl
theorem names_before {n : Str} {cs : List Col} {j : Nat} (h : ∀ (m : Nat) (c : Col), m < j → cs[m]? = some c → ¬ c.name = n) (m : Nat) (z : V) (hm : m < j) (hz : ((cs.map (·.name)).map V.str)[m]? = some z) : eqV z (.str n) = false := by
  rw [List.getElem?_map, List.getElem?_map] at hz
  cases hc : cs[m]? with
  | none =>
    rw [hc] at hz
    cases hz
  | some c =>
    rw [hc] at hz
    obtain rfl := Option.some.inj hz
    exact beq_eq_false_iff_ne.mpr (h m c hm hc)
theorem great_word {e : Col} {n : Str} {g : Int} {way : Str} (en : e.name = n) (hw : isWy way = true) (hv : valOk e.dflt = true) : chgV e.name (.great n g way) e.dflt = .str "missing" ↔ way = "refuse" ∧ ∃ j, e.dflt = .int j ∧ g < j := by
  unfold chgV
  rw [if_pos (show (Ch.great n g way).name = e.name from en.symm)]
  cases hd : e.dflt with
  | non => exact ⟨fun z => (by cases z), fun z => (by obtain ⟨_, j, z, _⟩ := z; cases z)⟩
  | int j =>
    show (if g < j then abv g way else .int j) = V.str "missing" ↔ _
    by_cases q : g < j
    · rw [if_pos q]
      unfold abv
      have hw' : (decide (way = "cut") || (decide (way = "none") || decide (way = "refuse"))) = true := hw
      rw [Bool.or_eq_true, Bool.or_eq_true, decide_eq_true_iff, decide_eq_true_iff, decide_eq_true_iff] at hw'
      rcases hw' with rfl | rfl | rfl
      · rw [if_pos rfl]
        exact ⟨fun z => (by cases z), fun z => absurd z.1 (by decide +kernel)⟩
      · rw [if_neg (by decide +kernel), if_pos rfl]
        exact ⟨fun z => (by cases z), fun z => absurd z.1 (by decide +kernel)⟩
      · rw [if_neg (by decide +kernel), if_neg (by decide +kernel)]
        exact ⟨fun _ => ⟨rfl, j, rfl, q⟩, fun _ => rfl⟩
    · rw [if_neg q]
      exact ⟨fun z => (by cases z), fun z => (by obtain ⟨_, j', z, q'⟩ := z; cases z; exact absurd q' q)⟩
  | _ => rw [hd] at hv; cases hv
def sp_word (K : PySem.W.Frag) : Sp := fun vs H Q _ => ∃ (l t : Addr) (as : List Addr) (cs : List Col) (ch : Ch), vs = [.ref l, .ref t] ∧ H l = some (.lst (as.map V.ref)) ∧ LCols K H as cs ∧ ChAt K H t ch ∧ as.length ≤ 1000 ∧ ch.fits = true ∧ (∀ c ∈ cs, ColOk c) ∧ ∀ H', Same H H' → Q (hindV cs ch) H'
theorem ok_word (T : Tx K mg) : Callee P w K mg base CX0 1 "_law_word" ["_law_cols_here", "_law_change_here"] [] (sp_word K) := by
  refine mkCallee (fd__law_word T) (mg__law_word T) sc__law_word (fun _ _ _ _ _ _ us hl => match us, hl with | [_, _], _ => rfl) (fun vs H Q E h => ?_) (fun cdv A outer s H vs Q E hr h => ?_)
  · obtain ⟨l, t, as, cs, ch, rfl, _⟩ := h
    rfl
  · obtain ⟨l, t, as, cs, ch, rfl, hl, hc, ht, hlen, hf, hok, k⟩ := h
    have nd := sc__law_word.nd
    refine ⟨_, pss_cons (ps_setLc (i := 3) (own := [("_law_col", 2)]) (g := gName 2) (tt := tYes) (te := tOp (rIxT K) (tVar 2) (tC (.int 0))) rfl nd rfl rfl (by rfl) (pi_list (pv 0)) (blkOk_by (N := ["_law_cols_here", "_law_change_here", "_law_col", "_law_names"]) (sc := defScope s__law_word) (by decide +kernel))
          (fun _ _ _ _ _ => pg_name (i := 2) nd rfl (Or.inl rfl)) (fun _ _ _ _ _ => pts_nil) (fun _ _ _ _ _ => pe_ix ix_tup (pv 2) pe_int (fun _ _ => rfl)))
      (pss_cons (ps_if (pt_cmpR op_eq (pe_ix ix_tup (pv 1) pe_int (fun _ _ => rfl)) pe_str (nomark _))
        (pss_cons (ps_if (pt_cmpR op_in_seq (pe_ix ix_tup (pv 1) pe_int (fun _ _ => rfl)) (pv 3) (by rfl)) (pss_one (ps_ret pe_str)) pss_nil)
        (pss_cons (ps_if (pt_cmpR op_gt (pe_callB call_len (by rfl) (fr_len T) PySem.boot_len (pa_cons (pv 0) pa_nil)) pe_int (nomark _)) (pss_one (ps_ret pe_str)) pss_nil)
        (pss_one (ps_ret (pe_ifExp (PW.pt (pw_and (pt_cmpR op_notN (pe_ix ix_tup (pv 1) pe_int (fun _ _ => rfl)) pe_non (nomark _)) (pw_and1 (pt_cmpR op_gt (pe_ix ix_tup (pv 1) pe_int (fun _ _ => rfl)) (pe_ix ix_tup (pv 1) pe_int (fun _ _ => rfl)) (nomark _))))) pe_str pe_non))))) pss_nil)
      (pss_cons (ps_if (pt_cmpR op_notIn_seq (pe_ix ix_tup (pv 1) pe_int (fun _ _ => rfl)) (pv 3) (by rfl)) (pss_one (ps_ret pe_str)) pss_nil)
      (pss_cons (ps_set (i := 2) nd rfl (Or.inl rfl) (pe_ix ix_list (pv 0) (pe_bm PySem.F.plainAttrs_list PySem.F.slot_list_index PySem.F.type_list_index mt_index (pv 3) (pa_cons (pe_ix ix_tup (pv 1) pe_int (fun _ _ => rfl)) pa_nil)) (fun _ _ => rfl)))
      (pss_cons (ps_if (pt_cmpR op_eq (pe_ix ix_tup (pv 1) pe_int (fun _ _ => rfl)) pe_str (nomark _)) (pss_one (ps_ret (pe_ifExp (pt_cmpR op_in_seq (pe_ix ix_tup (pv 1) pe_int (fun _ _ => rfl)) (pv 3) (by rfl)) pe_str pe_non))) pss_nil)
      (pss_cons (ps_if (pt_cmpR op_eq (pe_ix ix_tup (pv 1) pe_int (fun _ _ => rfl)) pe_str (nomark _)) (pss_one (ps_ret (pe_ifExp (pt_cmpR op_eq (pe_callB call_len (by rfl) (fr_len T) PySem.boot_len (pa_cons (pv 0) pa_nil)) pe_int (nomark _)) pe_str pe_non))) pss_nil)
      (pss_cons (ps_if (pt_cmpR op_in_seq (pe_ix ix_tup (pv 1) pe_int (fun _ _ => rfl)) (pe_lst (pa_cons pe_str (pa_cons pe_str pa_nil))) (by rfl)) (pss_one (ps_ret (pe_ifExp (PW.pt (pw_and (pt_cmpR op_notN (pe_ix ix_tup (pv 1) pe_int (fun _ _ => rfl)) pe_non (nomark _)) (pw_and1 (pt_cmpR op_gt (pe_ix ix_tup (pv 1) pe_int (fun _ _ => rfl)) (pe_ix ix_tup (pv 2) pe_int (fun _ _ => rfl)) (nomark _))))) pe_str pe_non))) pss_nil)
      (pss_one (ps_ret (pe_ifExp (PW.pt (pw_and (pt_cmpR op_eq (pe_ix ix_tup (pv 1) pe_int (fun _ _ => rfl)) pe_str (nomark _)) (pw_and (pt_cmpR op_notN (pe_ix ix_tup (pv 2) pe_int (fun _ _ => rfl)) pe_non (nomark _)) (pw_and1 (pt_cmpR op_gt (pe_ix ix_tup (pv 2) pe_int (fun _ _ => rfl)) (pe_ix ix_tup (pv 1) pe_int (fun _ _ => rfl)) (nomark _)))))) pe_str pe_non))))))))), ?_⟩
    refine q_asgX ?_
    refine tlc_G (K := K) (xs := as.map V.ref) (fun i y _ => ∃ c, cs[i]? = some c ∧ y = .str c.name) (fun i y H1 H2 s2 h => h) (fun R h => ⟨_, rfl, h l H (Same.refl _) (sqL_of hl)⟩) (by rw [List.length_map]; omega) (fun _ => rfl) ?_ ?_
    · intro i x hx H1 s1 R hR
      rw [List.getElem?_map] at hx
      cases ha : as[i]? with
      | none =>
        rw [ha] at hx
        cases hx
      | some a =>
        rw [ha] at hx
        obtain rfl := Option.some.inj hx
        obtain ⟨c, hci, hat⟩ := hc.at_ ha
        exact ⟨_, rfl, a, _, 0, _, rfl, rfl, sqT_of (hat.keep s1), rfl, hR _ _ (Same.refl _) ⟨c, hci, rfl⟩⟩
    · intro D ys H1 nD s1 hD hlen' hy
      obtain rfl := names_of (by rw [hlen', List.length_map, hc.len]) hy
      have k1 : ∀ H', Same H1 H' → Q (hindV cs ch) H' := fun H' s => k H' (s1.trans s)
      have hl1 := s1 _ _ hl
      have hc1 := hc.keep s1
      have ht1 := ht.keep s1
      clear hy hlen' nD k hl hc ht
      have hfl := names_flat cs
      have hL : LenV K (.ref l) H1 cs.length := .inl ⟨_, sqL_of hl1, by rw [List.length_map]; exact hc1.len.symm⟩
      refine ⟨_, rfl, t, _, 0, _, rfl, rfl, ht1, ch.at0, rfl, _, rfl, ?_⟩
      cases ch with
      | add n g d =>
        have i1 : atI (Ch.add n g d).toV 1 = some (.str n) := rfl
        have i2 : atI (Ch.add n g d).toV 2 = some (.int g) := rfl
        have i3 : atI (Ch.add n g d).toV 3 = some d := rfl
        refine iteDT rfl ⟨_, rfl, t, _, 1, _, rfl, rfl, ht1, i1, _, rfl, D, _, rfl, .inl (sqL_of hD), rfl, hfl, _, rfl, ?_⟩
        show if inV (.str n) ((cs.map (·.name)).map V.str) = true then _ else _
        rw [inV_names]
        cases hx : cs.find? (isN n) with
        | some e => exact iteT (by have q := k1 H1 (Same.refl _); simp only [hindV, addHind, hx] at q; exact q)
        | none =>
          refine iteF (nxt ⟨_, rfl, _, cs.length, rfl, hL, _, _, rfl, rfl, _, rfl, ?_⟩)
          have kn : ∀ v, hindV cs (.add n g d) = v → Q v H1 := fun v e => by rw [← e]; exact k1 H1 (Same.refl _)
          by_cases h6 : 6 ≤ cs.length
          · exact iteDT (by omega) (kn _ (by simp only [hindV, addHind, hx]; rw [if_neg (by decide), if_pos h6]))
          · refine iteD (by omega) (nxt ⟨_, rfl, t, _, 3, _, rfl, rfl, ht1, i3, rfl, _, rfl, ?_⟩)
            have hv : isVal d = true := by
              have hf' : (isNm (.str n) && (isGr (.int g) && isVal d)) = true := hf
              rw [Bool.and_eq_true, Bool.and_eq_true] at hf'
              exact hf'.2.2
            cases d with
            | non => exact iteF (iteF (kn _ (by simp only [hindV, addHind, hx]; rw [if_neg (by decide), if_neg h6]; rfl)))
            | int j =>
              refine iteT ⟨_, rfl, t, _, 3, _, rfl, rfl, ht1, i3, _, rfl, t, _, 2, _, rfl, rfl, ht1, i2, _, _, rfl, rfl, _, rfl, ?_⟩
              have h0 : 0 ≤ j := of_decide_eq_true hv
              by_cases q : g < j
              · refine iteDT q (kn _ ?_)
                simp only [hindV, addHind, hx]
                rw [if_neg (by decide), if_neg h6, if_neg]
                show ¬ (decide (0 ≤ j) && decide (j ≤ g)) = true
                rw [decide_eq_false (show ¬ j ≤ g by omega), Bool.and_false]
                decide
              · refine iteD q (kn _ ?_)
                simp only [hindV, addHind, hx]
                rw [if_neg (by decide), if_neg h6, if_pos]
                show (decide (0 ≤ j) && decide (j ≤ g)) = true
                rw [decide_eq_true (show j ≤ g by omega), decide_eq_true h0]
                rfl
            | _ => cases hv
      | drop n =>
        have i1 : atI (Ch.drop n).toV 1 = some (.str n) := rfl
        have i0 : atI (Ch.drop n).toV 0 = some (.str "drop") := rfl
        have kn : ∀ wv, hindV cs (.drop n) = wv → ∀ H', Same H1 H' → Q wv H' := fun wv e H' s' => by rw [← e]; exact k1 H' s'
        refine iteD (nes (show ("drop" : Str) ≠ "add" by decide +kernel)) (nxt ⟨_, rfl, t, _, 1, _, rfl, rfl, ht1, i1, _, rfl, D, _, rfl, .inl (sqL_of hD), rfl, hfl, _, rfl, ?_⟩)
        show if (!inV (.str n) ((cs.map (·.name)).map V.str)) = true then _ else _
        rw [inV_names]
        cases hx : cs.find? (isN n) with
        | none => exact iteT (kn _ (by simp only [hindV, hx]) H1 (Same.refl _))
        | some e =>
          obtain ⟨j, hj, en, hb⟩ := find_at hx
          have hja : j < as.length := by rw [hc1.len]; exact (List.getElem?_eq_some_iff.mp hj).1
          have haj := List.getElem?_eq_getElem hja
          obtain ⟨e', he', hat⟩ := hc1.at_ haj
          obtain rfl : e = e' := Option.some.inj (hj.symm.trans he')
          have hix := lref_at haj
          refine iteF (nxt ⟨_, rfl, _, rfl, .inl ⟨rfl, _, sqL_of hD⟩, _, rfl, t, _, 1, _, rfl, rfl, ht1, i1, D, _, .str n, j, _, rfl, rfl, sqL_of hD, rfl, hfl, names_at hj, (by rw [en]; exact beq_self_eq_true _), names_before hb, l, _, _, _, rfl, rfl, sqL_of hl1, hix, ?_⟩)
          have hs := sqT_of (K := K) hat
          refine ⟨_, rfl, t, _, 0, _, rfl, rfl, ht1, i0, rfl, _, rfl, ?_⟩
          refine iteD (nes (show ("drop" : Str) ≠ "rename" by decide +kernel)) (nxt ⟨_, rfl, t, _, 0, _, rfl, rfl, ht1, i0, rfl, _, rfl, ?_⟩)
          refine iteDT rfl ⟨_, rfl, _, cs.length, rfl, hL, rfl, _, rfl, ?_⟩
          by_cases h1 : cs.length = 1
          · exact iteDT (by rw [h1]; rfl) (kn _ (by simp only [hindV, hx]; rw [if_pos h1]) H1 (Same.refl _))
          · exact iteD (nei (by omega)) (kn _ (by simp only [hindV, hx]; rw [if_neg h1]) H1 (Same.refl _))
      | rename n m =>
        have i1 : atI (Ch.rename n m).toV 1 = some (.str n) := rfl
        have i0 : atI (Ch.rename n m).toV 0 = some (.str "rename") := rfl
        have kn : ∀ wv, hindV cs (.rename n m) = wv → ∀ H', Same H1 H' → Q wv H' := fun wv e H' s' => by rw [← e]; exact k1 H' s'
        refine iteD (nes (show ("rename" : Str) ≠ "add" by decide +kernel)) (nxt ⟨_, rfl, t, _, 1, _, rfl, rfl, ht1, i1, _, rfl, D, _, rfl, .inl (sqL_of hD), rfl, hfl, _, rfl, ?_⟩)
        show if (!inV (.str n) ((cs.map (·.name)).map V.str)) = true then _ else _
        rw [inV_names]
        cases hx : cs.find? (isN n) with
        | none => exact iteT (kn _ (by simp only [hindV, hx]) H1 (Same.refl _))
        | some e =>
          obtain ⟨j, hj, en, hb⟩ := find_at hx
          have hja : j < as.length := by rw [hc1.len]; exact (List.getElem?_eq_some_iff.mp hj).1
          have haj := List.getElem?_eq_getElem hja
          obtain ⟨e', he', hat⟩ := hc1.at_ haj
          obtain rfl : e = e' := Option.some.inj (hj.symm.trans he')
          have hix := lref_at haj
          refine iteF (nxt ⟨_, rfl, _, rfl, .inl ⟨rfl, _, sqL_of hD⟩, _, rfl, t, _, 1, _, rfl, rfl, ht1, i1, D, _, .str n, j, _, rfl, rfl, sqL_of hD, rfl, hfl, names_at hj, (by rw [en]; exact beq_self_eq_true _), names_before hb, l, _, _, _, rfl, rfl, sqL_of hl1, hix, ?_⟩)
          have hs := sqT_of (K := K) hat
          refine ⟨_, rfl, t, _, 0, _, rfl, rfl, ht1, i0, rfl, _, rfl, ?_⟩
          have i2 : atI (Ch.rename n m).toV 2 = some (.str m) := rfl
          refine iteDT rfl ⟨_, rfl, t, _, 2, _, rfl, rfl, ht1, i2, _, rfl, D, _, rfl, .inl (sqL_of hD), rfl, hfl, _, rfl, ?_⟩
          show if inV (.str m) ((cs.map (·.name)).map V.str) = true then _ else _
          rw [inV_names]
          cases hm : cs.find? (isN m) with
          | none => exact iteF (kn _ (by simp only [hindV, hx, hm]; rfl) H1 (Same.refl _))
          | some e2 => exact iteT (kn _ (by simp only [hindV, hx, hm]; rfl) H1 (Same.refl _))
      | dflt n v =>
        have i1 : atI (Ch.dflt n v).toV 1 = some (.str n) := rfl
        have i0 : atI (Ch.dflt n v).toV 0 = some (.str "default") := rfl
        have kn : ∀ wv, hindV cs (.dflt n v) = wv → ∀ H', Same H1 H' → Q wv H' := fun wv e H' s' => by rw [← e]; exact k1 H' s'
        refine iteD (nes (show ("default" : Str) ≠ "add" by decide +kernel)) (nxt ⟨_, rfl, t, _, 1, _, rfl, rfl, ht1, i1, _, rfl, D, _, rfl, .inl (sqL_of hD), rfl, hfl, _, rfl, ?_⟩)
        show if (!inV (.str n) ((cs.map (·.name)).map V.str)) = true then _ else _
        rw [inV_names]
        cases hx : cs.find? (isN n) with
        | none => exact iteT (kn _ (by simp only [hindV, hx]) H1 (Same.refl _))
        | some e =>
          obtain ⟨j, hj, en, hb⟩ := find_at hx
          have hja : j < as.length := by rw [hc1.len]; exact (List.getElem?_eq_some_iff.mp hj).1
          have haj := List.getElem?_eq_getElem hja
          obtain ⟨e', he', hat⟩ := hc1.at_ haj
          obtain rfl : e = e' := Option.some.inj (hj.symm.trans he')
          have hix := lref_at haj
          refine iteF (nxt ⟨_, rfl, _, rfl, .inl ⟨rfl, _, sqL_of hD⟩, _, rfl, t, _, 1, _, rfl, rfl, ht1, i1, D, _, .str n, j, _, rfl, rfl, sqL_of hD, rfl, hfl, names_at hj, (by rw [en]; exact beq_self_eq_true _), names_before hb, l, _, _, _, rfl, rfl, sqL_of hl1, hix, ?_⟩)
          have hs := sqT_of (K := K) hat
          refine ⟨_, rfl, t, _, 0, _, rfl, rfl, ht1, i0, rfl, _, rfl, ?_⟩
          refine iteD (nes (show ("default" : Str) ≠ "rename" by decide +kernel)) (nxt ⟨_, rfl, t, _, 0, _, rfl, rfl, ht1, i0, rfl, _, rfl, ?_⟩)
          refine iteD (nes (show ("default" : Str) ≠ "drop" by decide +kernel)) (nxt ⟨_, rfl, t, _, 0, _, rfl, rfl, ht1, i0, (by show 2 ≤ sizeLine; decide), fun q nq => ⟨q, _, rfl, .inl (sqL_of upd_same), rfl, rfl, _, rfl, ?_⟩⟩)
          have s2 := same_new (o := .lst [V.str "default", .str "fill"]) nq
          have ht2 := same_tup s2 ht1
          have hs2 := same_tup s2 hs
          have i2 : atI (Ch.dflt n v).toV 2 = some v := rfl
          refine iteT ⟨_, rfl, t, _, 2, _, rfl, rfl, ht2, i2, rfl, _, rfl, ?_⟩
          have hv : isVal v = true := by
            have hf' : (isNm (.str n) && isVal v) = true := hf
            rw [Bool.and_eq_true] at hf'
            exact hf'.2
          cases v with
          | non => exact iteF (iteF (kn _ (by simp only [hindV, hx]; rw [if_pos (show isIn e.top V.non = true from rfl)]) _ s2))
          | int j2 =>
              refine iteT ⟨_, rfl, t, _, 2, _, rfl, rfl, ht2, i2, _, rfl, as[j], _, 1, _, rfl, rfl, hs2, rfl, _, _, rfl, rfl, _, rfl, ?_⟩
              have h0 : 0 ≤ j2 := of_decide_eq_true hv
              by_cases q2 : e.top < j2
              · refine iteDT q2 (kn _ ?_ _ s2)
                simp only [hindV, hx]
                rw [if_neg]
                show ¬ (decide (0 ≤ j2) && decide (j2 ≤ e.top)) = true
                rw [decide_eq_false (show ¬ j2 ≤ e.top by omega), Bool.and_false]
                decide
              · refine iteD q2 (kn _ ?_ _ s2)
                simp only [hindV, hx]
                rw [if_pos]
                show (decide (0 ≤ j2) && decide (j2 ≤ e.top)) = true
                rw [decide_eq_true (show j2 ≤ e.top by omega), decide_eq_true h0]
                rfl
          | _ => cases hv
      | fill n j2 =>
        have i1 : atI (Ch.fill n j2).toV 1 = some (.str n) := rfl
        have i0 : atI (Ch.fill n j2).toV 0 = some (.str "fill") := rfl
        have kn : ∀ wv, hindV cs (.fill n j2) = wv → ∀ H', Same H1 H' → Q wv H' := fun wv e H' s' => by rw [← e]; exact k1 H' s'
        refine iteD (nes (show ("fill" : Str) ≠ "add" by decide +kernel)) (nxt ⟨_, rfl, t, _, 1, _, rfl, rfl, ht1, i1, _, rfl, D, _, rfl, .inl (sqL_of hD), rfl, hfl, _, rfl, ?_⟩)
        show if (!inV (.str n) ((cs.map (·.name)).map V.str)) = true then _ else _
        rw [inV_names]
        cases hx : cs.find? (isN n) with
        | none => exact iteT (kn _ (by simp only [hindV, hx]) H1 (Same.refl _))
        | some e =>
          obtain ⟨j, hj, en, hb⟩ := find_at hx
          have hja : j < as.length := by rw [hc1.len]; exact (List.getElem?_eq_some_iff.mp hj).1
          have haj := List.getElem?_eq_getElem hja
          obtain ⟨e', he', hat⟩ := hc1.at_ haj
          obtain rfl : e = e' := Option.some.inj (hj.symm.trans he')
          have hix := lref_at haj
          refine iteF (nxt ⟨_, rfl, _, rfl, .inl ⟨rfl, _, sqL_of hD⟩, _, rfl, t, _, 1, _, rfl, rfl, ht1, i1, D, _, .str n, j, _, rfl, rfl, sqL_of hD, rfl, hfl, names_at hj, (by rw [en]; exact beq_self_eq_true _), names_before hb, l, _, _, _, rfl, rfl, sqL_of hl1, hix, ?_⟩)
          have hs := sqT_of (K := K) hat
          refine ⟨_, rfl, t, _, 0, _, rfl, rfl, ht1, i0, rfl, _, rfl, ?_⟩
          refine iteD (nes (show ("fill" : Str) ≠ "rename" by decide +kernel)) (nxt ⟨_, rfl, t, _, 0, _, rfl, rfl, ht1, i0, rfl, _, rfl, ?_⟩)
          refine iteD (nes (show ("fill" : Str) ≠ "drop" by decide +kernel)) (nxt ⟨_, rfl, t, _, 0, _, rfl, rfl, ht1, i0, (by show 2 ≤ sizeLine; decide), fun q nq => ⟨q, _, rfl, .inl (sqL_of upd_same), rfl, rfl, _, rfl, ?_⟩⟩)
          have s2 := same_new (o := .lst [V.str "default", .str "fill"]) nq
          have ht2 := same_tup s2 ht1
          have hs2 := same_tup s2 hs
          have i2 : atI (Ch.fill n j2).toV 2 = some (.int j2) := rfl
          refine iteT ⟨_, rfl, t, _, 2, _, rfl, rfl, ht2, i2, rfl, _, rfl, ?_⟩
          have hv : 0 ≤ j2 := by
            have hf' : (isNm (.str n) && decide (0 ≤ j2)) = true := hf
            rw [Bool.and_eq_true] at hf'
            exact of_decide_eq_true hf'.2
          refine iteT ⟨_, rfl, t, _, 2, _, rfl, rfl, ht2, i2, _, rfl, as[j], _, 1, _, rfl, rfl, hs2, rfl, _, _, rfl, rfl, _, rfl, ?_⟩
          have h0 : 0 ≤ j2 := hv
          by_cases q2 : e.top < j2
          · refine iteDT q2 (kn _ ?_ _ s2)
            simp only [hindV, hx]
            rw [if_neg]
            show ¬ (decide (0 ≤ j2) && decide (j2 ≤ e.top)) = true
            rw [decide_eq_false (show ¬ j2 ≤ e.top by omega), Bool.and_false]
            decide
          · refine iteD q2 (kn _ ?_ _ s2)
            simp only [hindV, hx]
            rw [if_pos]
            show (decide (0 ≤ j2) && decide (j2 ≤ e.top)) = true
            rw [decide_eq_true (show j2 ≤ e.top by omega), decide_eq_true h0]
            rfl
      | great n g way =>
        have i1 : atI (Ch.great n g way).toV 1 = some (.str n) := rfl
        have i0 : atI (Ch.great n g way).toV 0 = some (.str "greatest") := rfl
        have kn : ∀ wv, hindV cs (.great n g way) = wv → ∀ H', Same H1 H' → Q wv H' := fun wv e H' s' => by rw [← e]; exact k1 H' s'
        refine iteD (nes (show ("greatest" : Str) ≠ "add" by decide +kernel)) (nxt ⟨_, rfl, t, _, 1, _, rfl, rfl, ht1, i1, _, rfl, D, _, rfl, .inl (sqL_of hD), rfl, hfl, _, rfl, ?_⟩)
        show if (!inV (.str n) ((cs.map (·.name)).map V.str)) = true then _ else _
        rw [inV_names]
        cases hx : cs.find? (isN n) with
        | none => exact iteT (kn _ (by simp only [hindV, hx]) H1 (Same.refl _))
        | some e =>
          obtain ⟨j, hj, en, hb⟩ := find_at hx
          have hja : j < as.length := by rw [hc1.len]; exact (List.getElem?_eq_some_iff.mp hj).1
          have haj := List.getElem?_eq_getElem hja
          obtain ⟨e', he', hat⟩ := hc1.at_ haj
          obtain rfl : e = e' := Option.some.inj (hj.symm.trans he')
          have hix := lref_at haj
          refine iteF (nxt ⟨_, rfl, _, rfl, .inl ⟨rfl, _, sqL_of hD⟩, _, rfl, t, _, 1, _, rfl, rfl, ht1, i1, D, _, .str n, j, _, rfl, rfl, sqL_of hD, rfl, hfl, names_at hj, (by rw [en]; exact beq_self_eq_true _), names_before hb, l, _, _, _, rfl, rfl, sqL_of hl1, hix, ?_⟩)
          have hs := sqT_of (K := K) hat
          refine ⟨_, rfl, t, _, 0, _, rfl, rfl, ht1, i0, rfl, _, rfl, ?_⟩
          refine iteD (nes (show ("greatest" : Str) ≠ "rename" by decide +kernel)) (nxt ⟨_, rfl, t, _, 0, _, rfl, rfl, ht1, i0, rfl, _, rfl, ?_⟩)
          refine iteD (nes (show ("greatest" : Str) ≠ "drop" by decide +kernel)) (nxt ⟨_, rfl, t, _, 0, _, rfl, rfl, ht1, i0, (by show 2 ≤ sizeLine; decide), fun q nq => ⟨q, _, rfl, .inl (sqL_of upd_same), rfl, rfl, _, rfl, ?_⟩⟩)
          have s2 := same_new (o := .lst [V.str "default", .str "fill"]) nq
          have ht2 := same_tup s2 ht1
          have hs2 := same_tup s2 hs
          have i2 : atI (Ch.great n g way).toV 2 = some (.int g) := rfl
          have i3 : atI (Ch.great n g way).toV 3 = some (.str way) := rfl
          have hwy : isWy way = true := by
            have hf' : (isNm (.str n) && (isGr (.int g) && isWy way)) = true := hf
            rw [Bool.and_eq_true, Bool.and_eq_true] at hf'
            exact hf'.2.2
          have hdv : valOk e.dflt = true := by
            have q := (hok e (List.mem_of_getElem? hj)).df
            cases hd : e.dflt with
            | non => rfl
            | int _ => rfl
            | _ => rw [hd] at q; cases q
          have gw := great_word (g := g) en hwy hdv
          have kw : ∀ b : Prop, (way = "refuse" ∧ ∃ j, e.dflt = .int j ∧ g < j) → hindV cs (.great n g way) = .str "default" := fun _ z => by simp only [hindV, hx]; rw [if_pos (gw.mpr z)]
          have ko : ¬ (way = "refuse" ∧ ∃ j, e.dflt = .int j ∧ g < j) → hindV cs (.great n g way) = .non := fun z => by simp only [hindV, hx]; rw [if_neg (fun q => z (gw.mp q))]
          refine iteF (nxt ⟨_, rfl, t, _, 3, _, rfl, rfl, ht2, i3, rfl, _, rfl, ?_⟩)
          by_cases hr2 : way = "refuse"
          · refine iteDT (by rw [hr2]) ⟨_, rfl, as[j], _, 2, _, rfl, rfl, hs2, rfl, rfl, _, rfl, ?_⟩
            cases hd : e.dflt with
            | non => exact iteF (iteF (kn _ (ko (fun z => by obtain ⟨_, j', z, _⟩ := z; rw [hd] at z; cases z)) _ s2))
            | int j2 =>
              refine iteT ⟨_, rfl, as[j], _, 2, _, rfl, rfl, hs2, (show _ = some (V.int j2) by rw [← hd]; rfl), _, rfl, t, _, 2, _, rfl, rfl, ht2, i2, _, _, rfl, rfl, _, rfl, ?_⟩
              by_cases q2 : g < j2
              · exact iteDT q2 (kn _ (kw True ⟨hr2, j2, hd, q2⟩) _ s2)
              · exact iteD q2 (kn _ (ko (fun z => by obtain ⟨_, j', z, q'⟩ := z; rw [hd] at z; cases z; exact q2 q')) _ s2)
            | _ => rw [hd] at hdv; cases hdv
          · exact iteD (nes hr2) (iteF (kn _ (ko (fun z => hr2 z.1)) _ s2))
-- needs: columns_of_editions columns_behind
/-! the names that the first laws draw -/
abbrev nm3 : List Str := ["a", "b", "cc"]
def nmCh : Ch → Bool
  | .add n _ _ => decide (n ∈ nm3)
  | .rename _ m => decide (m ∈ nm3)
  | _ => true
theorem nm3_behind {cs : List Col} {ch : Ch} {num : Int} (h : ∀ c ∈ cs, c.name ∈ nm3) (hc : nmCh ch = true) : ∀ c ∈ behind cs ch num, c.name ∈ nm3 := by
  have mapped : ∀ ch', nmCh ch' = true → ∀ c ∈ cs, (if c.name = ch'.name then chgC c ch' else c).name ∈ nm3 := fun ch' hc' c hm => by
    split
    · cases ch' with
      | rename n m => exact of_decide_eq_true hc'
      | _ => exact h c hm
    · exact h c hm
  intro c hm
  cases ch with
  | add n g d =>
    rcases List.mem_append.mp (show c ∈ cs ++ [⟨n, g, d, num⟩] from hm) with hm | hm
    · exact h c hm
    · rw [List.mem_singleton.mp hm]
      exact of_decide_eq_true hc
  | drop n =>
    exact h c (List.mem_filter.mp (show c ∈ cs.filter _ from hm)).1
  | rename n m =>
    obtain ⟨c', h1, h2⟩ := List.mem_map.mp (show c ∈ cs.map (fun c => if c.name = (Ch.rename n m).name then chgC c (.rename n m) else c) from hm)
    rw [← h2]
    exact mapped _ hc c' h1
  | dflt n v =>
    obtain ⟨c', h1, h2⟩ := List.mem_map.mp (show c ∈ cs.map (fun c => if c.name = (Ch.dflt n v).name then chgC c (.dflt n v) else c) from hm)
    rw [← h2]
    exact mapped _ hc c' h1
  | great n g w =>
    obtain ⟨c', h1, h2⟩ := List.mem_map.mp (show c ∈ cs.map (fun c => if c.name = (Ch.great n g w).name then chgC c (.great n g w) else c) from hm)
    rw [← h2]
    exact mapped _ hc c' h1
  | fill n v =>
    obtain ⟨c', h1, h2⟩ := List.mem_map.mp (show c ∈ cs.map (fun c => if c.name = (Ch.fill n v).name then chgC c (.fill n v) else c) from hm)
    rw [← h2]
    exact mapped _ hc c' h1
theorem nm3_at {cs : List Col} {chs : List Ch} (h : ∀ c ∈ cs, c.name ∈ nm3) (hc : ∀ ch ∈ chs, nmCh ch = true) : ∀ m, m ≤ chs.length → ∀ c ∈ (atC cs (chs.take m)).1, c.name ∈ nm3
  | 0, _ => h
  | m + 1, hm => by
    obtain ⟨ch, e⟩ : ∃ ch, chs[m]? = some ch := ⟨_, List.getElem?_eq_getElem (by omega)⟩
    rw [List.take_add_one, e]
    have e1 : (atC cs (chs.take m ++ [ch])).1 = behind (atC cs (chs.take m)).1 ch (atC cs (chs.take m)).2 := by
      show (List.foldl stepC (cs, (cs.length : Int)) (chs.take m ++ [ch])).1 = _
      rw [List.foldl_append]
      rfl
    show ∀ c ∈ (atC cs (chs.take m ++ [ch])).1, c.name ∈ nm3
    rw [e1]
    exact nm3_behind (nm3_at h hc m (by omega)) (hc ch (List.mem_of_getElem? e))

/-! _law_change: a drawn change fits -/
theorem npool {H : Hp} {p l : Addr} {o : HO} (h : H p = some o) (n : H l = none) : l ≠ p := fun e => by
  rw [e, h] at n
  cases n
def sp_law_change (K : PySem.W.Frag) : Sp := fun vs H Q _ => ∃ (p : Addr) (z0 z1 m : Int), vs = [.ref p, .int m] ∧ H p = some (.lst [.int z0, .int z1]) ∧ 1 ≤ m ∧ m ≤ 99 ∧
  ∀ (t : Addr) (c : Ch) (y0 y1 : Int) (H' : Hp), c.fits = true → nmCh c = true → But p H H' → H' p = some (.lst [.int y0, .int y1]) → ChAt K H' t c → Q (.ref t) H'
theorem nmk {n : Str} (h : n = "a" ∨ n = "b" ∨ n = "cc") : isNm (.str n) = true := by
  rcases h with rfl | rfl | rfl <;> decide +kernel
theorem mem3 {x : V} {a b c : V} (h : x ∈ [a, b, c]) : x = a ∨ x = b ∨ x = c := by
  simpa [List.mem_cons] using h
theorem ok_law_change (T : Tx K mg) : Callee P w K mg base CX0 4 "_law_change" ["_law_pool_here", "_law_most"] [] (sp_law_change K) := by
  have C1 := (ok_pick (P := P) (w := w) (base := base) T).up (show 2 ≤ 3 by decide)
  have C2 := ok_value (P := P) (w := w) (base := base) T
  have C3 := (ok_draw (P := P) (w := w) (base := base) T).up (show 1 ≤ 3 by decide)
  refine mkCallee (fd__law_change T) (mg__law_change T) sc__law_change (fun _ _ _ _ _ _ us hl => match us, hl with | [_, _], _ => rfl) (fun vs H Q E h => ?_) (fun cdv A outer s H vs Q E hr h => ?_)
  · obtain ⟨p, z0, z1, m, rfl, _⟩ := h
    rfl
  · obtain ⟨p, z0, z1, m, rfl, hp, h0, h1, k⟩ := h
    have nd := sc__law_change.nd
    refine ⟨_, pss_cons (ps_set (i := 2) nd rfl (Or.inl rfl) (pcall C1 hr (pa_cons (pv 0) (pa_cons (pe_lst (pa_cons pe_str (pa_cons pe_str (pa_cons pe_str (pa_cons pe_str (pa_cons pe_str (pa_cons pe_str (pa_cons pe_str (pa_cons pe_str (pa_cons pe_str pa_nil)))))))))) pa_nil))))
      (pss_cons (ps_set (i := 3) nd rfl (Or.inl rfl) (pcall C1 hr (pa_cons (pv 0) (pa_cons (pe_lst (pa_cons pe_str (pa_cons pe_str (pa_cons pe_str pa_nil)))) pa_nil))))
      (pss_cons (ps_if (pt_cmpR op_eq (pv 2) pe_str (nomark _)) (pss_one (ps_ret (pe_tup (pa_cons (pv 2) (pa_cons (pv 3) (pa_cons (pe_op op_add pe_int (pcall C3 hr (pa_cons (pv 0) (pa_cons (pv 1) pa_nil)))) (pa_cons (pcall C2 hr (pa_cons (pv 0) (pa_cons (pv 1) pa_nil))) pa_nil))))))) pss_nil)
      (pss_cons (ps_if (pt_cmpR op_eq (pv 2) pe_str (nomark _)) (pss_one (ps_ret (pe_tup (pa_cons (pv 2) (pa_cons (pv 3) pa_nil))))) pss_nil)
      (pss_cons (ps_if (pt_cmpR op_eq (pv 2) pe_str (nomark _)) (pss_one (ps_ret (pe_tup (pa_cons (pv 2) (pa_cons (pv 3) (pa_cons (pcall C1 hr (pa_cons (pv 0) (pa_cons (pe_lst (pa_cons pe_str (pa_cons pe_str (pa_cons pe_str pa_nil)))) pa_nil))) pa_nil)))))) pss_nil)
      (pss_cons (ps_if (pt_cmpR op_eq (pv 2) pe_str (nomark _)) (pss_one (ps_ret (pe_tup (pa_cons (pv 2) (pa_cons (pv 3) (pa_cons (pcall C2 hr (pa_cons (pv 0) (pa_cons (pv 1) pa_nil))) pa_nil)))))) pss_nil)
      (pss_cons (ps_if (pt_cmpR op_eq (pv 2) pe_str (nomark _)) (pss_one (ps_ret (pe_tup (pa_cons (pv 2) (pa_cons (pv 3) (pa_cons (pcall C3 hr (pa_cons (pv 0) (pa_cons (pe_op op_add (pv 1) pe_int) pa_nil))) pa_nil)))))) pss_nil)
      (pss_one (ps_ret (pe_tup (pa_cons (pv 2) (pa_cons (pv 3) (pa_cons (pe_op op_add pe_int (pcall C3 hr (pa_cons (pv 0) (pa_cons (pv 1) pa_nil)))) (pa_cons (pcall C1 hr (pa_cons (pv 0) (pa_cons (pe_lst (pa_cons pe_str (pa_cons pe_str (pa_cons pe_str pa_nil)))) pa_nil))) pa_nil))))))))))))), ?_⟩
    have vfit : ∀ v, isIn m v = true → isVal v = true := fun v hv => by
      cases v with
      | non => rfl
      | int i =>
        have hv' : (decide (0 ≤ i) && decide (i ≤ m)) = true := hv
        exact (Bool.and_eq_true_iff.mp hv').1
      | _ => cases hv
    -- the kind
    refine ⟨_, rfl, (by show 9 ≤ sizeLine; decide), fun l nl => ?_⟩
    refine ⟨p, l, z0, z1, _, rfl, same_new nl _ _ hp, upd_same, npool hp nl, (by show 0 < 9; decide), (by show 9 < 1000000; decide), fun x y0 y1 hx => ?_⟩
    have b1 : But p H (upd (upd H l (.lst [.str "add", .str "drop", .str "rename", .str "default", .str "greatest", .str "greatest", .str "greatest", .str "fill", .str "fill"])) p (.lst [.int y0, .int y1])) := (But.of (same_new nl)).trans But.mut
    have p1 : upd (upd H l (.lst [.str "add", .str "drop", .str "rename", .str "default", .str "greatest", .str "greatest", .str "greatest", .str "fill", .str "fill"])) p (.lst [.int y0, .int y1]) p = some (.lst [.int y0, .int y1]) := upd_same
    generalize upd (upd H l (.lst [.str "add", .str "drop", .str "rename", .str "default", .str "greatest", .str "greatest", .str "greatest", .str "fill", .str "fill"])) p (.lst [.int y0, .int y1]) = H1 at b1 p1
    have hx' : x = .str "add" ∨ x = .str "drop" ∨ x = .str "rename" ∨ x = .str "default" ∨ x = .str "greatest" ∨ x = .str "fill" := by
      simp only [List.mem_cons, List.not_mem_nil, or_false] at hx
      rcases hx with h | h | h | h | h | h | h | h | h <;> simp [h]
    -- the name
    refine ⟨_, rfl, (by show 3 ≤ sizeLine; decide), fun l2 nl2 => ?_⟩
    refine ⟨p, l2, y0, y1, _, rfl, same_new nl2 _ _ p1, upd_same, npool p1 nl2, (by show 0 < 3; decide), (by show 3 < 1000000; decide), fun xn w0 w1 hxn => ?_⟩
    have b2 : But p H (upd (upd H1 l2 (.lst [.str "a", .str "b", .str "cc"])) p (.lst [.int w0, .int w1])) := b1.trans ((But.of (same_new nl2)).trans But.mut)
    have p2 : upd (upd H1 l2 (.lst [.str "a", .str "b", .str "cc"])) p (.lst [.int w0, .int w1]) p = some (.lst [.int w0, .int w1]) := upd_same
    generalize upd (upd H1 l2 (.lst [.str "a", .str "b", .str "cc"])) p (.lst [.int w0, .int w1]) = H2 at b2 p2
    obtain ⟨n, rfl, hn, hn3⟩ : ∃ n : Str, xn = .str n ∧ isNm (.str n) = true ∧ n ∈ nm3 := by
      rcases mem3 hxn with rfl | rfl | rfl
      · exact ⟨_, rfl, nmk (.inl rfl), by decide +kernel⟩
      · exact ⟨_, rfl, nmk (.inr (.inl rfl)), by decide +kernel⟩
      · exact ⟨_, rfl, nmk (.inr (.inr rfl)), by decide +kernel⟩
    rcases hx' with rfl | rfl | rfl | rfl | rfl | rfl
    · -- add
      refine ⟨_, rfl, rfl, _, rfl, iteDT rfl ⟨_, rfl, _, rfl, _, rfl, _, rfl, p, w0, w1, m, rfl, p2, (by omega), (by omega), fun r u0 u1 r0 r1 => ⟨_, _, rfl, rfl, ?_⟩⟩⟩
      have p3 : upd H2 p (.lst [.int u0, .int u1]) p = some (.lst [.int u0, .int u1]) := upd_same
      refine ⟨_, rfl, _, rfl, p, u0, u1, m, rfl, p3, (by omega), (by omega), fun v q0 q1 H3 hv b3 p4 => ⟨(by show 4 ≤ sizeLine; decide), fun t nt => ?_⟩⟩
      refine k t (.add n (1 + r) v) q0 q1 _ ?_ (decide_eq_true hn3) (((b2.trans But.mut).trans b3).trans (But.of (same_new nt))) (same_new nt _ _ p4) (sqT_of upd_same)
      show (isNm (.str n) && ((decide (1 ≤ 1 + r) && decide (1 + r ≤ 99)) && isVal v)) = true
      rw [hn, vfit v hv, decide_eq_true (by omega), decide_eq_true (by omega)]
      rfl
    · -- drop
      refine ⟨_, rfl, rfl, _, rfl, iteD (nes (show ("drop" : Str) ≠ "add" by decide +kernel)) ⟨_, rfl, rfl, _, rfl, iteDT rfl ⟨_, rfl, _, rfl, (by show 2 ≤ sizeLine; decide), fun t nt => ?_⟩⟩⟩
      exact k t (.drop n) w0 w1 _ hn rfl (b2.trans (But.of (same_new nt))) (same_new nt _ _ p2) (sqT_of upd_same)
    · -- rename
      refine ⟨_, rfl, rfl, _, rfl, iteD (nes (show ("rename" : Str) ≠ "add" by decide +kernel)) ⟨_, rfl, rfl, _, rfl, iteD (nes (show ("rename" : Str) ≠ "drop" by decide +kernel)) ⟨_, rfl, rfl, _, rfl, iteDT rfl ?_⟩⟩⟩
      refine ⟨_, rfl, _, rfl, _, rfl, (by show 3 ≤ sizeLine; decide), fun l3 nl3 => ?_⟩
      refine ⟨p, l3, w0, w1, _, rfl, same_new nl3 _ _ p2, upd_same, npool p2 nl3, (by show 0 < 3; decide), (by show 3 < 1000000; decide), fun xm u0 u1 hxm => ⟨(by show 3 ≤ sizeLine; decide), fun t nt => ?_⟩⟩
      obtain ⟨o, rfl, ho, ho3⟩ : ∃ o : Str, xm = .str o ∧ isNm (.str o) = true ∧ o ∈ nm3 := by
        rcases mem3 hxm with rfl | rfl | rfl
        · exact ⟨_, rfl, nmk (.inl rfl), by decide +kernel⟩
        · exact ⟨_, rfl, nmk (.inr (.inl rfl)), by decide +kernel⟩
        · exact ⟨_, rfl, nmk (.inr (.inr rfl)), by decide +kernel⟩
      refine k t (.rename n o) u0 u1 _ ?_ (decide_eq_true ho3) ((b2.trans ((But.of (same_new nl3)).trans But.mut)).trans (But.of (same_new nt))) (same_new nt _ _ upd_same) (sqT_of upd_same)
      show (isNm (.str n) && isNm (.str o)) = true
      rw [hn, ho]
      rfl
    · -- default
      refine ⟨_, rfl, rfl, _, rfl, iteD (nes (show ("default" : Str) ≠ "add" by decide +kernel)) ⟨_, rfl, rfl, _, rfl, iteD (nes (show ("default" : Str) ≠ "drop" by decide +kernel)) ⟨_, rfl, rfl, _, rfl, iteD (nes (show ("default" : Str) ≠ "rename" by decide +kernel)) ⟨_, rfl, rfl, _, rfl, iteDT rfl ?_⟩⟩⟩⟩
      refine ⟨_, rfl, _, rfl, _, rfl, _, rfl, p, w0, w1, m, rfl, p2, (by omega), (by omega), fun v q0 q1 H3 hv b3 p4 => ⟨(by show 3 ≤ sizeLine; decide), fun t nt => ?_⟩⟩
      refine k t (.dflt n v) q0 q1 _ ?_ rfl ((b2.trans b3).trans (But.of (same_new nt))) (same_new nt _ _ p4) (sqT_of upd_same)
      show (isNm (.str n) && isVal v) = true
      rw [hn, vfit v hv]
      rfl
    · -- greatest
      refine ⟨_, rfl, rfl, _, rfl, iteD (nes (show ("greatest" : Str) ≠ "add" by decide +kernel)) ⟨_, rfl, rfl, _, rfl, iteD (nes (show ("greatest" : Str) ≠ "drop" by decide +kernel)) ⟨_, rfl, rfl, _, rfl, iteD (nes (show ("greatest" : Str) ≠ "rename" by decide +kernel)) ⟨_, rfl, rfl, _, rfl, iteD (nes (show ("greatest" : Str) ≠ "default" by decide +kernel)) ⟨_, rfl, rfl, _, rfl, iteD (nes (show ("greatest" : Str) ≠ "fill" by decide +kernel)) ?_⟩⟩⟩⟩⟩
      refine ⟨_, rfl, _, rfl, _, rfl, _, rfl, p, w0, w1, m, rfl, p2, (by omega), (by omega), fun r u0 u1 r0 r1 => ⟨_, _, rfl, rfl, ?_⟩⟩
      have p3 : upd H2 p (.lst [.int u0, .int u1]) p = some (.lst [.int u0, .int u1]) := upd_same
      refine ⟨_, rfl, (by show 3 ≤ sizeLine; decide), fun l3 nl3 => ?_⟩
      refine ⟨p, l3, u0, u1, _, rfl, same_new nl3 _ _ p3, upd_same, npool p3 nl3, (by show 0 < 3; decide), (by show 3 < 1000000; decide), fun x q0 q1 hw => ⟨(by show 4 ≤ sizeLine; decide), fun t nt => ?_⟩⟩
      have hx3 : ∃ z : Str, x = .str z ∧ isWy z = true := by
        rcases mem3 hw with rfl | rfl | rfl
        · exact ⟨_, rfl, by decide +kernel⟩
        · exact ⟨_, rfl, by decide +kernel⟩
        · exact ⟨_, rfl, by decide +kernel⟩
      obtain ⟨z, rfl, hz⟩ := hx3
      refine k t (.great n (1 + r) z) q0 q1 _ ?_ rfl (((b2.trans But.mut).trans ((But.of (same_new nl3)).trans But.mut)).trans (But.of (same_new nt))) (same_new nt _ _ upd_same) (sqT_of upd_same)
      show (isNm (.str n) && ((decide (1 ≤ 1 + r) && decide (1 + r ≤ 99)) && isWy z)) = true
      rw [hn, hz, decide_eq_true (by omega), decide_eq_true (by omega)]
      rfl
    · -- fill
      refine ⟨_, rfl, rfl, _, rfl, iteD (nes (show ("fill" : Str) ≠ "add" by decide +kernel)) ⟨_, rfl, rfl, _, rfl, iteD (nes (show ("fill" : Str) ≠ "drop" by decide +kernel)) ⟨_, rfl, rfl, _, rfl, iteD (nes (show ("fill" : Str) ≠ "rename" by decide +kernel)) ⟨_, rfl, rfl, _, rfl, iteD (nes (show ("fill" : Str) ≠ "default" by decide +kernel)) ⟨_, rfl, rfl, _, rfl, iteDT rfl ?_⟩⟩⟩⟩⟩
      refine ⟨_, rfl, _, rfl, _, rfl, _, rfl, _, _, rfl, rfl, p, w0, w1, _, rfl, p2, (by omega), (by omega), fun r u0 u1 r0 r1 => ⟨(by show 3 ≤ sizeLine; decide), fun t nt => ?_⟩⟩
      refine k t (.fill n r) u0 u1 _ ?_ rfl ((b2.trans But.mut).trans (But.of (same_new nt))) (same_new nt _ _ upd_same) (sqT_of upd_same)
      show (isNm (.str n) && decide (0 ≤ r)) = true
      rw [hn, decide_eq_true r0]
      rfl
/-! a law's columns as tuples stay -/
theorem LCols.keepNL {K : PySem.W.Frag} {H H' : Hp} (s : KeepNL H H') : ∀ {as : List Addr} {cs : List Col}, LCols K H as cs → LCols K H' as cs
  | _, _, .nil => .nil
  | _, _, .cons h t => .cons (h.keepNL s) (t.keepNL s)

/-! _law_first: one or two drawn columns -/
theorem good_first {cs : List Col} {ns : List Str} (hns : ns = [("a" : Str)] ∨ ns = [("a" : Str), ("b" : Str)]) (hn : cs.map (·.name) = ns) (ok : ∀ c ∈ cs, ColOk c) (pl : Placed cs) : Good cs cs.length := by
  have e : cs.length = ns.length := by rw [← hn, List.length_map]
  have l : ns.length = 1 ∨ ns.length = 2 := by rcases hns with rfl | rfl <;> simp
  refine ⟨fun c hc => ⟨ok c hc, ?_⟩, by omega, by omega, ?_, by omega⟩
  · obtain ⟨i, hi⟩ := List.mem_iff_getElem?.mp hc
    have := pl i c hi
    have := (List.getElem?_eq_some_iff.mp hi).1
    omega
  · rw [hn]
    rcases hns with rfl | rfl <;> decide +kernel
def sp_law_first (K : PySem.W.Frag) : Sp := fun vs H Q _ => ∃ (p : Addr) (z0 z1 m : Int), vs = [.ref p, .int m] ∧ H p = some (.lst [.int z0, .int z1]) ∧ 1 ≤ m ∧ m ≤ 99 ∧
  ∀ (l : Addr) (as : List Addr) (cs : List Col) (y0 y1 : Int) (H' : Hp), H l = none → But p H H' → H' p = some (.lst [.int y0, .int y1]) → H' l = some (.lst (as.map V.ref)) → LCols K H' as cs → Good cs cs.length → Placed cs → cs.length ≤ 2 → (∀ c ∈ cs, c.name ∈ nm3) → (∀ c ∈ cs, c.top ≤ m) → Q (.ref l) H'
theorem ok_law_first (T : Tx K mg) : Callee P w K mg base CX0 4 "_law_first" ["_law_pool_here", "_law_most"] [] (sp_law_first K) := by
  have C2 := ok_value (P := P) (w := w) (base := base) T
  have C3 := (ok_draw (P := P) (w := w) (base := base) T).up (show 1 ≤ 3 by decide)
  refine mkCallee (fd__law_first T) (mg__law_first T) sc__law_first (fun _ _ _ _ _ _ us hl => match us, hl with | [_, _], _ => rfl) (fun vs H Q E h => ?_) (fun cdv A outer s H vs Q E hr h => ?_)
  · obtain ⟨p, z0, z1, m, rfl, _⟩ := h
    rfl
  · obtain ⟨p, z0, z1, m, rfl, hp, h0, h1, k⟩ := h
    have nd := sc__law_first.nd
    refine ⟨_, pss_cons (ps_set (i := 2) nd rfl (Or.inl rfl) (pe_lst pa_nil))
      (pss_cons (ps_for PassesOwn.never rfl (pi_list (pe_slice sl_list (pe_lst (pa_cons pe_str (pa_cons pe_str pa_nil))) po_none (po_some (pe_op op_add pe_int (pcall C3 hr (pa_cons (pv 0) (pa_cons pe_int pa_nil))))))) (pg_name (i := 3) nd rfl (Or.inl rfl))
        (pss_cons (ps_set (i := 4) nd rfl (Or.inl rfl) (pe_op op_add pe_int (pcall C3 hr (pa_cons (pv 0) (pa_cons (pv 1) pa_nil)))))
        (pss_one (ps_expr (pe_bm PySem.F.plainAttrs_list PySem.F.slot_list_append PySem.F.type_list_append mt_append (pv 2) (pa_cons (pe_tup (pa_cons (pv 3) (pa_cons (pv 4) (pa_cons (pcall C2 hr (pa_cons (pv 0) (pa_cons (pv 4) pa_nil))) (pa_cons (pe_callB call_len (by rfl) (fr_len T) PySem.boot_len (pa_cons (pv 2) pa_nil)) pa_nil))))) pa_nil))))))
      (pss_one (ps_ret (pv 2)))), ?_⟩
    refine q_asgX ⟨by decide, fun l nl => ?_⟩
    have b0 : But p H (upd H l (.lst [])) := But.of (same_new nl)
    have hp0 : upd H l (.lst []) p = some (.lst [.int z0, .int z1]) := same_new nl _ _ hp
    have hl0 : upd H l (.lst []) l = some (.lst []) := upd_same
    have npl : l ≠ p := fun e => by rw [e, hp] at nl; cases nl
    generalize upd H l (.lst []) = H1 at b0 hp0 hl0
    refine ⟨by show 2 ≤ sizeLine; decide, fun q0 nq0 => ?_⟩
    refine ⟨_, rfl, p, z0, z1, 2, rfl, same_new nq0 _ _ hp0, by decide, by decide, fun r u0 u1 r0 r1 => ⟨_, _, rfl, rfl, _, rfl, q0, [.str "a", .str "b"], rfl, sqL_of ?_, fun q nq => ?_⟩⟩
    · rw [upd_ne (npool0 hp0 nq0)]
      exact upd_same
    have nqp : q ≠ p := npool0 upd_same nq
    have nlq0 : l ≠ q0 := ne_of_none hl0 nq0
    obtain ⟨ns, hns, hcut⟩ : ∃ ns : List Str, (ns = [("a" : Str)] ∨ ns = [("a" : Str), ("b" : Str)]) ∧ cutV [.str "a", .str "b"] none (some (1 + r)) = ns.map V.str := by
      have : r = 0 ∨ r = 1 := by omega
      rcases this with rfl | rfl
      · exact ⟨_, .inl rfl, rfl⟩
      · exact ⟨_, .inr rfl, rfl⟩
    rw [hcut]
    have b1 : But p H (upd (upd (upd H1 q0 (.lst [V.str "a", .str "b"])) p (.lst [.int u0, .int u1])) q (.lst (ns.map V.str))) := ((b0.trans (But.of (same_new nq0))).trans But.mut).trans (But.of (same_new nq))
    have hq1 : upd (upd (upd H1 q0 (.lst [V.str "a", .str "b"])) p (.lst [.int u0, .int u1])) q (.lst (ns.map V.str)) q = some (.lst (ns.map V.str)) := upd_same
    have hp1 : upd (upd (upd H1 q0 (.lst [V.str "a", .str "b"])) p (.lst [.int u0, .int u1])) q (.lst (ns.map V.str)) p = some (.lst [.int u0, .int u1]) := same_new nq _ _ upd_same
    have hl1 : upd (upd (upd H1 q0 (.lst [V.str "a", .str "b"])) p (.lst [.int u0, .int u1])) q (.lst (ns.map V.str)) l = some (.lst []) := by
      refine same_new nq _ _ ?_
      rw [upd_ne npl]
      exact same_new nq0 _ _ hl0
    have nlq : l ≠ q := by
      intro e
      rw [← e, upd_ne npl, upd_ne nlq0, hl0] at nq
      cases nq
    generalize upd (upd (upd H1 q0 (.lst [V.str "a", .str "b"])) p (.lst [.int u0, .int u1])) q (.lst (ns.map V.str)) = H2 at b1 hq1 hp1 hl1
    clear hl0 hp0 b0 nq nlq0 nq0
    refine ⟨q, rfl, ⟨_, sqL_of hq1⟩, ?_⟩
    refine for_list (xs := ns.map V.str) (fun i σ H' => ∃ (as : List Addr) (cs : List Col) (y0 y1 : Int) (x3 x4 : Option V), σ = [some (.ref p), some (.int m), some (.ref l), x3, x4] ∧ But p H H' ∧ H' q = some (.lst (ns.map V.str)) ∧ H' p = some (.lst [.int y0, .int y1]) ∧ H' l = some (.lst (as.map V.ref)) ∧
      LCols K H' as cs ∧ cs.map (·.name) = ns.take i ∧ (∀ c ∈ cs, ColOk c ∧ c.top ≤ m) ∧ Placed cs) ⟨[], [], u0, u1, none, none, rfl, b1, hq1, hp1, hl1, .nil, rfl, (fun c hc => by cases hc), (fun i c hc => by simp at hc)⟩ (fun i σ H' _ h => ?_) ?_ ?_
    · obtain ⟨as, cs, y0, y1, x3, x4, _, _, hq', _⟩ := h
      exact sqL_of hq'
    · rintro i x σ H' hx ⟨as, cs, y0, y1, x3, x4, rfl, b', hq', hp', hl', hc', hn', ok', pl'⟩
      rw [List.getElem?_map] at hx
      cases hi : ns[i]? with
      | none =>
        rw [hi] at hx
        cases hx
      | some n =>
        rw [hi] at hx
        obtain rfl := Option.some.inj hx
        have hil := (List.getElem?_eq_some_iff.mp hi).1
        have hcl : cs.length = i := by
          have := congrArg List.length hn'
          rw [List.length_map, List.length_take] at this
          omega
        have hnl : ns.length ≤ 2 := by rcases hns with rfl | rfl <;> simp
        have hnm : isNm (.str n) = true := by
          have hm := List.mem_of_getElem? hi
          rcases hns with rfl | rfl
          · rw [List.mem_singleton] at hm
            exact hm ▸ (by decide +kernel)
          · rcases List.mem_cons.mp hm with e | hm
            · exact e ▸ (by decide +kernel)
            · rw [List.mem_singleton] at hm
              exact hm ▸ (by decide +kernel)
        refine ⟨_, rfl, _, rfl, p, y0, y1, m, rfl, hp', by omega, by omega, fun r u0 u1 r0 r1 => ⟨_, _, rfl, rfl, ?_⟩⟩
        have b2 : But p H (upd H' p (.lst [.int u0, .int u1])) := b'.trans But.mut
        have hq2 : upd H' p (.lst [.int u0, .int u1]) q = some (.lst (ns.map V.str)) := by rw [upd_ne nqp]; exact hq'
        have hp2 : upd H' p (.lst [.int u0, .int u1]) p = some (.lst [.int u0, .int u1]) := upd_same
        have hl2 : upd H' p (.lst [.int u0, .int u1]) l = some (.lst (as.map V.ref)) := by rw [upd_ne npl]; exact hl'
        have hc2 := hc'.keepNL (KeepNL.ofBut hp' (But.mut (o := .lst [.int u0, .int u1])))
        generalize upd H' p (.lst [.int u0, .int u1]) = H3 at b2 hq2 hp2 hl2 hc2
        refine ⟨_, rfl, .inl ⟨rfl, _, sqL_of hl2⟩, _, rfl, _, rfl, _, rfl, _, rfl, p, u0, u1, _, rfl, hp2, by omega, by omega, fun v w0 w1 H4 hv b4 hp4 => ?_⟩
        have hl4 := b4 _ _ npl hl2
        have hq4 := b4 _ _ nqp hq2
        have hc4 := hc2.keepNL (KeepNL.ofBut hp2 b4)
        refine ⟨_, rfl, _, as.length, rfl, .inl ⟨_, sqL_of hl4, by rw [List.length_map]⟩, by show 4 ≤ sizeLine; decide, fun t nt => ?_⟩
        have hl5 : upd H4 t (.tup [.str n, .int (1 + r), v, .int (as.length : Nat)]) l = some (.lst (as.map V.ref)) := same_new nt _ _ hl4
        have ntl : l ≠ t := ne_of_none hl4 nt
        refine ⟨l, _, _, rfl, rfl, hl5, ?_, as ++ [t], cs ++ [⟨n, 1 + r, v, (as.length : Nat)⟩], w0, w1, _, _, rfl, ?_, ?_, ?_, ?_, ?_, ?_, ?_, ?_⟩
        · rw [List.length_map, hc'.len, hcl]
          have e : sizeLine = 16777216 := by decide
          omega
        · exact fun c o hc e => by
            have hcl2 : c ≠ l := ne_of_none e nl
            rw [upd_ne hcl2]
            exact same_new nt _ _ (b4 _ _ hc (b2 _ _ hc e))
        · rw [upd_ne nlq.symm]
          exact same_new nt _ _ hq4
        · rw [upd_ne npl.symm]
          exact same_new nt _ _ hp4
        · rw [upd_same, List.map_append]
          rfl
        · have k5 := (KeepNL.of (same_new (o := .tup [.str n, .int (1 + r), v, .int (as.length : Nat)]) nt))
          have k6 : KeepNL (upd H4 t (.tup [.str n, .int (1 + r), v, .int (as.length : Nat)])) _ := KeepNL.lst hl5 (ys := as.map V.ref ++ [.ref t])
          refine ((hc4.keepNL k5).keepNL k6).app (.cons ?_ .nil)
          exact k6 _ _ (fun _ z => by cases z) upd_same
        · rw [List.map_append, hn', List.take_add_one, hi]
          rfl
        · intro c hc
          rcases List.mem_append.mp hc with hc | hc
          · exact ok' c hc
          · cases List.mem_singleton.mp hc
            refine ⟨⟨hnm, ?_, hv, by show (0 : Int) ≤ (as.length : Nat); omega⟩, by show 1 + r ≤ m; omega⟩
            show (decide (1 ≤ 1 + r) && decide (1 + r ≤ 99)) = true
            rw [decide_eq_true (by omega), decide_eq_true (by omega)]
            rfl
        · intro j c hj
          by_cases hjl : j < cs.length
          · rw [List.getElem?_append_left hjl] at hj
            exact pl' j c hj
          · have hje : j = cs.length := by
              have h := (List.getElem?_eq_some_iff.mp hj).1
              rw [List.length_append] at h
              have : ([⟨n, 1 + r, v, (as.length : Nat)⟩] : List Col).length = 1 := rfl
              omega
            subst hje
            rw [List.getElem?_append_right (Nat.le_refl _), Nat.sub_self] at hj
            obtain rfl := Option.some.inj hj
            show ((as.length : Nat) : Int) = _
            rw [hc'.len]
    · rintro σ H' ⟨as, cs, y0, y1, x3, x4, rfl, b', hq', hp', hl', hc', hn', ok', pl'⟩
      rw [List.length_map, List.take_length] at hn'
      refine ⟨_, rfl, k l as cs y0 y1 H' nl b' hp' hl' hc' (good_first hns hn' (fun c hc => (ok' c hc).1) pl') pl' ?_ (fun c hc => ?_) fun c hc => (ok' c hc).2⟩
      · have := congrArg List.length hn'
        rw [List.length_map] at this
        rw [this]
        rcases hns with rfl | rfl <;> simp
      · have hm : c.name ∈ ns := by
          rw [← hn']
          exact List.mem_map_of_mem hc
        rcases hns with rfl | rfl
        · rw [List.mem_singleton.mp hm]
          decide +kernel
        · rcases List.mem_cons.mp hm with e | hm
          · rw [e]
            decide +kernel
          · rw [List.mem_singleton.mp hm]
            decide +kernel
/-! _law_cols -/
def sp_lcols (K : PySem.W.Frag) : Sp := fun vs H Q _ => ∃ (l : Addr) (as : List Addr) (cs : List Col), vs = [.ref l] ∧ H l = some (.lst (as.map V.ref)) ∧ LCols K H as cs ∧ as.length ≤ 1000 ∧ (∀ c ∈ cs, ColOk c) ∧
  ∀ (l' : Addr) (as' : List Addr) (H' : Hp), H l' = none → Same H H' → H' l' = some (.lst (as'.map V.ref)) → Cols K H' as' cs → Q (.ref l') H'
theorem ok_lcols (T : Tx K mg) : Callee P w K mg base CX0 6 "_law_cols" ["_law_cols_here"] [] (sp_lcols K) := by
  obtain ⟨fdI, GI, FI⟩ := ok_Col_init (P := P) (w := w) (base := base) T
  obtain ⟨_, _, kb⟩ := kbinds_Col T FI
  refine mkCallee (fd__law_cols T) (mg__law_cols T) sc__law_cols (fun _ _ _ _ _ _ us hl => match us, hl with | [_], _ => rfl) (fun vs H Q E h => ?_) (fun cdv A outer s H vs Q E hr h => ?_)
  · obtain ⟨l, as, cs, rfl, _⟩ := h
    rfl
  · obtain ⟨l, as, cs, rfl, hl, hc, hlen, hok, k⟩ := h
    have nd := sc__law_cols.nd
    refine ⟨_, pss_one (ps_ret (pe_lc (own := [("_law_col", 1)]) (g := gName 1) (tt := tYes) (te := tMakeK (He.ga K "Column") 3 (["number"] : List Str).length (sp_Col_init K) (fun vs zs => vs ++ zs) E0 (tCons (tOp (rIxT K) (tVar 1) (tC (.int 0))) (tCons (tOp (rIxT K) (tVar 1) (tC (.int 1))) (tCons (tOp (rIxT K) (tVar 1) (tC (.int 2))) tNil))) (tCons (tOp (rIxT K) (tVar 1) (tC (.int 3))) tNil)) rfl nd (pi_list (pv 0)) (blkOk_by (N := ["_law_cols_here", "_law_col"]) (sc := defScope s__law_cols) (by decide +kernel))
        (fun _ _ _ _ _ => pg_name (i := 1) nd rfl (Or.inl rfl)) (fun _ _ _ _ _ => pts_nil) (fun _ _ _ _ _ => pe_makeK (mk_Column T) GI hr (by rfl) (mg_Column T) kb pass0 (pa_cons (pe_ix ix_tup (pv 1) pe_int (fun _ _ => rfl)) (pa_cons (pe_ix ix_tup (pv 1) pe_int (fun _ _ => rfl)) (pa_cons (pe_ix ix_tup (pv 1) pe_int (fun _ _ => rfl)) pa_nil))) (pk_cons (pe_ix ix_tup (pv 1) pe_int (fun _ _ => rfl)) pk_nil)))), ?_⟩
    refine tlc_G (K := K) (xs := as.map V.ref) (fun i y H' => ∃ a c, y = .ref a ∧ cs[i]? = some c ∧ ColA K H' a c) (fun i y H1 H2 s2 ⟨a, c, h1, h2, h3⟩ => ⟨a, c, h1, h2, h3.keepNL s2⟩) (fun R h => ⟨_, rfl, h l H (Same.refl _) (sqL_of hl)⟩) (by rw [List.length_map]; omega) (fun _ => rfl) ?_ ?_
    · intro i x hx H1 s1 R hR
      rw [List.getElem?_map] at hx
      cases ha : as[i]? with
      | none =>
        rw [ha] at hx
        cases hx
      | some a =>
        rw [ha] at hx
        obtain rfl := Option.some.inj hx
        obtain ⟨c, hci, hat⟩ := hc.at_ ha
        have ok := hok c (List.mem_of_getElem? hci)
        have h1 := sqT_of (K := K) (hat.keep s1)
        refine ⟨_, rfl, a, _, 0, _, rfl, rfl, h1, rfl, _, rfl, a, _, 1, _, rfl, rfl, h1, rfl, _, rfl, a, _, 2, _, rfl, rfl, h1, rfl, _, rfl, a, _, 3, _, rfl, rfl, h1, rfl, rfl, rfl, fun x dx2 nx ndx ndc => ?_⟩
        refine ⟨x, dx2, c.name, c.top, c.num, c.dflt, rfl, upd_same, ok.nm, ok.gr, ok.df, ok.nu, fun H4 hc4 k4 => ⟨rfl, ?_⟩⟩
        exact hR _ _ (fun b o e => k4 b o (ne_of_none e nx) (by rw [upd_ne (ne_of_none e nx), upd_ne (ne_of_none e ndx)]; exact e)) ⟨x, c, rfl, hci, hc4⟩
    · intro D ys H' nD s' hD hlen' hy
      obtain ⟨as', rfl, hcs⟩ := Cols.of_vs (by rw [hlen', List.length_map, hc.len]) hy
      exact k D as' H' nD s' hD hcs
/-! _law_made; a law's history as a dict -/
def lhDict (sh ch : Addr) (n : Int) : List (Key × V) := [(Sum.inr "sheets", .ref sh), (Sum.inr "changes", .ref ch), (Sum.inr "given", .int n)]
theorem lh_vals (sh ch : Addr) (n : Int) : valV (lhDict sh ch n) (Sum.inr "sheets") = some (.ref sh) ∧ valV (lhDict sh ch n) (Sum.inr "changes") = some (.ref ch) ∧ valV (lhDict sh ch n) (Sum.inr "given") = some (.int n) := by
  have h1 : ¬ ((Sum.inr "sheets" : Key) = (Sum.inr "changes" : Key)) := by decide +kernel
  have h2 : ¬ ((Sum.inr "sheets" : Key) = (Sum.inr "given" : Key)) := by decide +kernel
  have h3 : ¬ ((Sum.inr "changes" : Key) = (Sum.inr "given" : Key)) := by decide +kernel
  unfold lhDict
  refine ⟨valV_pos rfl, ?_, ?_⟩
  · simp [valV, h1]
  · simp [valV, h2, h3]
/-- the law's sheets: lists of its columns -/
inductive Sheets (K : PySem.W.Frag) (H : Hp) : List Addr → List (List Col) → Prop
  | nil : Sheets K H [] []
  | cons {e : Addr} {es : List Addr} {cs : List Col} {eds : List (List Col)} (as : List Addr) : H e = some (.lst (as.map V.ref)) → LCols K H as cs → Sheets K H es eds → Sheets K H (e :: es) (cs :: eds)
theorem Sheets.keep {K : PySem.W.Frag} {H H' : Hp} (s : Same H H') : ∀ {es : List Addr} {eds : List (List Col)}, Sheets K H es eds → Sheets K H' es eds
  | _, _, .nil => .nil
  | _, _, .cons as h c t => .cons as (s _ _ h) (c.keep s) (t.keep s)
theorem Sheets.len {K : PySem.W.Frag} {H : Hp} : ∀ {es : List Addr} {eds : List (List Col)}, Sheets K H es eds → es.length = eds.length
  | _, _, .nil => rfl
  | _, _, .cons _ _ _ t => congrArg Nat.succ t.len
theorem Sheets.at_ {K : PySem.W.Frag} {H : Hp} : ∀ {es : List Addr} {eds : List (List Col)} {i : Nat} {e : Addr}, Sheets K H es eds → es[i]? = some e → ∃ cs as, eds[i]? = some cs ∧ H e = some (.lst (as.map V.ref)) ∧ LCols K H as cs
  | _, _, _, _, .nil, e => by simp at e
  | _, _, 0, _, .cons as h c t, e => by
    simp at e
    subst e
    exact ⟨_, as, rfl, h, c⟩
  | _, _, i + 1, a, .cons as h c t, e => by
    obtain ⟨cs, as', h1, h2⟩ := Sheets.at_ (i := i) (e := a) t (by simpa using e)
    exact ⟨cs, as', by simpa using h1, h2⟩
/-- the law's history stands at h -/
def LhAt (K : PySem.W.Frag) (H : Hp) (h : Addr) (cs : List Col) (chs : List Ch) : Prop := ∃ (sh ch : Addr) (es ts : List Addr), H h = some (.dK (lhDict sh ch (atC cs chs).2)) ∧ H sh = some (.lst (es.map V.ref)) ∧ Sheets K H es (edsTo cs chs (chs.length + 1)) ∧ H ch = some (.lst (ts.map V.ref)) ∧ Chs K H ts chs
theorem LhAt.keep {K : PySem.W.Frag} {H H' : Hp} {h : Addr} {cs : List Col} {chs : List Ch} (s : Same H H') (q : LhAt K H h cs chs) : LhAt K H' h cs chs := by
  obtain ⟨sh, ch, es, ts, h1, h2, h3, h4, h5⟩ := q
  exact ⟨sh, ch, es, ts, s _ _ h1, s _ _ h2, h3.keep s, s _ _ h4, h5.keep s⟩
def sp_made (K : PySem.W.Frag) : Sp := fun vs H Q _ => ∃ (h : Addr) (cs : List Col) (chs : List Ch), vs = [.ref h] ∧ LhAt K H h cs chs ∧ HistOk cs chs ∧ ∀ (h' : Addr) (H' : Hp), H h' = none → Same H H' → HistN K H H' h' cs chs → Q (.ref h') H'
theorem ok_made (T : Tx K mg) : Callee P w K mg base CX0 13 "_law_made" ["_law_h"] [] (sp_made K) := by
  have C1 := (ok_lcols (P := P) (w := w) (base := base) T).up (show 6 ≤ 12 by decide)
  obtain ⟨fdI, GI, FI⟩ := ok_Hist_init (P := P) (w := w) (base := base) T
  have bI : Binds K fdI ["self", "columns", "changes"] [] := by
    have h := FI.binds1 (ps := ["self", "columns", "changes"]) 3 1 (by intro z; cases z) rfl (fun TT kV doc pm an cdv ct us its h1 h2 => ?_)
    · obtain ⟨ds, v, b⟩ := h
      cases ds with
      | nil => exact b
      | cons _ _ => cases v
    · match us, h1, its, h2 with
      | [u0, u1, u2], _, [i0], _ => exact ⟨_, rfl, rfl⟩
  refine mkCallee (fd__law_made T) (mg__law_made T) sc__law_made (fun _ _ _ _ _ _ us hl => match us, hl with | [_], _ => rfl) (fun vs H Q E h => ?_) (fun cdv A outer s H vs Q E hr h => ?_)
  · obtain ⟨h, cs, chs, rfl, _⟩ := h
    rfl
  · obtain ⟨h, cs, chs, rfl, ⟨sh, ch, es, ts, h1, h2, h3, h4, h5⟩, ok, k⟩ := h
    obtain ⟨v1, v2, v3⟩ := lh_vals sh ch (atC cs chs).2
    refine ⟨_, pss_one (ps_ret (pe_make (mk_History T) GI hr (by rfl) (mg_History T) bI .nil pass0 (pa_cons (pcall C1 hr (pa_cons (pe_ix ix_list (pe_dget (hu_of hr) (pv 0) pe_str (fun _ _ => rfl)) pe_int (fun _ _ => rfl)) pa_nil)) (pa_cons (pe_dget (hu_of hr) (pv 0) pe_str (fun _ _ => rfl)) pa_nil)))), ?_⟩
    have hlen : es.length = chs.length + 1 := by rw [h3.len, edsTo_len]
    have e0 : es[0]? = some es[0] := List.getElem?_eq_getElem (by omega)
    obtain ⟨cs0, as, hcs, hea, hc⟩ := h3.at_ e0
    rw [edsTo_get (by omega)] at hcs
    obtain rfl : cs = cs0 := Option.some.inj hcs
    have a0 : atI (es.map V.ref) 0 = some (.ref es[0]) := by
      unfold atI
      rw [ixN_ok (Int.le_refl _) (by rw [List.length_map]; omega)]
      show (es.map V.ref)[0]? = _
      rw [List.getElem?_map, e0]
      rfl
    have six := ok.g.six
    refine ⟨_, rfl, h, .ref sh, rfl, (by rw [← v1]; exact DGet.k (k := Sum.inr "sheets") h1), sh, _, 0, _, rfl, rfl, sqL_of h2, a0, es[0], as, cs, rfl, hea, hc, by rw [hc.len]; omega, fun c hcm => (ok.g.ok c hcm).1, fun l' as' H1 n1 s1 hl' hc' => ?_⟩
    refine ⟨_, rfl, h, .ref ch, rfl, (by rw [← v2]; exact DGet.k (k := Sum.inr "changes") (s1 _ _ h1)), fun x dx nx ndx ndc => ?_⟩
    have s2 : Same H1 (upd (upd H1 dx (.own x)) x (.ins (He.ga K "History") dx [])) := fun b o e => by
      rw [upd_ne (ne_of_none e nx), upd_ne (ne_of_none e ndx)]
      exact e
    refine ⟨x, dx, l', ch, as', ts, cs, chs, rfl, upd_same, s2 _ _ hl', hc'.keep s2, s2 _ _ (s1 _ _ h4), (h5.keep s1).keep s2, fun c hcm => (ok.g.ok c hcm).1, by rw [numb_placed ok.pl]; exact ok, fun H' hA kp => ⟨rfl, ?_⟩⟩
    rw [numb_placed ok.pl] at hA
    obtain ⟨dx', e', c', b', d', es', ts', hA, hb', hd'⟩ := hA
    exact k x H' (s1.free nx) (fun b o e => kp b o (ne_of_none (s1 _ _ e) nx) (s2 _ _ (s1 _ _ e))) ⟨dx', e', c', b', d', es', ts', hA, (s1.trans s2).free hb', (s1.trans s2).free hd'⟩
/-! _law_history: the law's history, drawn -/
theorem LCols.keepT {K : PySem.W.Frag} {H H' : Hp} (s : KeepT H H') : ∀ {as : List Addr} {cs : List Col}, LCols K H as cs → LCols K H' as cs
  | _, _, .nil => .nil
  | _, _, .cons h t => .cons (s _ _ (fun _ z => by cases z) (fun _ z => by cases z) h) (t.keepT s)
theorem Sheets.keepT {K : PySem.W.Frag} {H H' : Hp} (s : KeepT H H') : ∀ {es : List Addr} {eds : List (List Col)}, (∀ e ∈ es, ∀ o, H e = some o → H' e = some o) → Sheets K H es eds → Sheets K H' es eds
  | _, _, _, .nil => .nil
  | _, _, k, .cons as h c t => .cons as (k _ List.mem_cons_self _ h) (c.keepT s) (t.keepT s fun e he => k e (List.mem_cons_of_mem _ he))
theorem Sheets.app {K : PySem.W.Frag} {H : Hp} : ∀ {es fs : List Addr} {eds ffs : List (List Col)}, Sheets K H es eds → Sheets K H fs ffs → Sheets K H (es ++ fs) (eds ++ ffs)
  | _, _, _, _, .nil, h => h
  | _, _, _, _, .cons as h c t, q => .cons as h c (t.app q)
theorem lh_put {sh ch : Addr} {n m : Int} : putK (lhDict sh ch n) (Sum.inr "given") (.int m) = lhDict sh ch m := by
  have h1 : ¬ ((Sum.inr "sheets" : Key) = (Sum.inr "given" : Key)) := by decide +kernel
  have h2 : ¬ ((Sum.inr "changes" : Key) = (Sum.inr "given" : Key)) := by decide +kernel
  simp [lhDict, putK, h1, h2]
theorem lh_merge {sh ch : Addr} {n : Int} : mergeK [] [(Sum.inr "sheets", .ref sh), (Sum.inr "changes", .ref ch), (Sum.inr "given", .int n)] = lhDict sh ch n := by
  have h1 : ¬ ((Sum.inr "sheets" : Key) = (Sum.inr "changes" : Key)) := by decide +kernel
  have h2 : ¬ ((Sum.inr "sheets" : Key) = (Sum.inr "given" : Key)) := by decide +kernel
  have h3 : ¬ ((Sum.inr "changes" : Key) = (Sum.inr "given" : Key)) := by decide +kernel
  simp [mergeK, putK, lhDict, h1, h2, h3]
/-- what the law's history is while it is drawn: its dict, its two lists, the sheets -/
structure LhI (K : PySem.W.Frag) (p h sh ca : Addr) (cs : List Col) (chs : List Ch) (es ts : List Addr) (g : Int) (H : Hp) : Prop where
  d : H h = some (.dK (lhDict sh ca g))
  s : H sh = some (.lst (es.map V.ref))
  S : Sheets K H es (edsTo cs chs (chs.length + 1))
  c : H ca = some (.lst (ts.map V.ref))
  C : Chs K H ts chs
  n : ∀ e ∈ es, e ≠ p ∧ e ≠ sh ∧ e ≠ ca
  sp : sh ≠ p
  cp : ca ≠ p
  sc : sh ≠ ca
theorem LhI.but {K : PySem.W.Frag} {p h sh ca : Addr} {cs : List Col} {chs : List Ch} {es ts : List Addr} {g : Int} {H H' : Hp} {zs : List V} (q : LhI K p h sh ca cs chs es ts g H) (hp : H p = some (.lst zs)) (b : But p H H') : LhI K p h sh ca cs chs es ts g H' where
  d := b _ _ (fun e => by have := q.d; rw [e, hp] at this; cases this) q.d
  s := b _ _ q.sp q.s
  S := q.S.keepT (KeepT.but hp b) fun e he o ho => b _ _ (q.n e he).1 ho
  c := b _ _ q.cp q.c
  C := q.C.keepT (KeepT.but hp b)
  n := q.n
  sp := q.sp
  cp := q.cp
  sc := q.sc
theorem Sheets.lst {K : PySem.W.Frag} {H : Hp} : ∀ {es : List Addr} {eds : List (List Col)}, Sheets K H es eds → ∀ e ∈ es, ∃ zs, H e = some (.lst zs)
  | _, _, .nil, _, he => by cases he
  | _, _, .cons as h c t, e, he => by
    rcases List.mem_cons.mp he with rfl | he
    · exact ⟨_, h⟩
    · exact t.lst e he
theorem LhI.hs {K : PySem.W.Frag} {p h sh ca : Addr} {cs : List Col} {chs : List Ch} {es ts : List Addr} {g : Int} {H : Hp} (q : LhI K p h sh ca cs chs es ts g H) : sh ≠ h ∧ ca ≠ h ∧ ∀ e ∈ es, e ≠ h := by
  refine ⟨fun e => ?_, fun e => ?_, fun a ha e => ?_⟩
  · have := q.s
    rw [e, q.d] at this
    cases this
  · have := q.c
    rw [e, q.d] at this
    cases this
  · obtain ⟨zs, hz⟩ := q.S.lst a ha
    rw [e, q.d] at hz
    cases hz
theorem LhI.given {K : PySem.W.Frag} {p h sh ca : Addr} {cs : List Col} {chs : List Ch} {es ts : List Addr} {g : Int} {H : Hp} (q : LhI K p h sh ca cs chs es ts g H) (m : Int) : LhI K p h sh ca cs chs es ts m (upd H h (.dK (lhDict sh ca m))) where
  d := upd_same
  s := by rw [upd_ne q.hs.1]; exact q.s
  S := q.S.keepT (KeepT.dct q.d) fun e he o ho => by rw [upd_ne (q.hs.2.2 e he)]; exact ho
  c := by rw [upd_ne q.hs.2.1]; exact q.c
  C := q.C.keepT (KeepT.dct q.d)
  n := q.n
  sp := q.sp
  cp := q.cp
  sc := q.sc
theorem LhI.same {K : PySem.W.Frag} {p h sh ca : Addr} {cs : List Col} {chs : List Ch} {es ts : List Addr} {g : Int} {H H' : Hp} (q : LhI K p h sh ca cs chs es ts g H) (s : Same H H') : LhI K p h sh ca cs chs es ts g H' where
  d := s _ _ q.d
  s := s _ _ q.s
  S := q.S.keep s
  c := s _ _ q.c
  C := q.C.keep s
  n := q.n
  sp := q.sp
  cp := q.cp
  sc := q.sc
theorem LhI.more {K : PySem.W.Frag} {p h sh ca : Addr} {cs : List Col} {chs : List Ch} {es ts : List Addr} {g : Int} {H : Hp} (q : LhI K p h sh ca cs chs es ts g H) {l t : Addr} {as : List Addr} {ch : Ch} (g' : Int) (hl : H l = some (.lst (as.map V.ref))) (hc : LCols K H as (behind (atC cs chs).1 ch (atC cs chs).2))
    (ht : ChAt K H t ch) (n : l ≠ p ∧ l ≠ sh ∧ l ≠ ca) : LhI K p h sh ca cs (chs ++ [ch]) (es ++ [l]) (ts ++ [t]) g' (upd (upd (upd H sh (.lst (es.map V.ref ++ [.ref l]))) ca (.lst (ts.map V.ref ++ [.ref t]))) h (.dK (lhDict sh ca g'))) := by
  have k1 : KeepT H (upd H sh (.lst (es.map V.ref ++ [.ref l]))) := KeepT.lst q.s
  have hca : upd H sh (.lst (es.map V.ref ++ [.ref l])) ca = some (.lst (ts.map V.ref)) := by rw [upd_ne q.sc.symm]; exact q.c
  have k2 := k1.trans (KeepT.lst hca (o := .lst (ts.map V.ref ++ [.ref t])))
  have hh : upd (upd H sh (.lst (es.map V.ref ++ [.ref l]))) ca (.lst (ts.map V.ref ++ [.ref t])) h = some (.dK (lhDict sh ca g)) := by
    rw [upd_ne q.hs.2.1.symm, upd_ne q.hs.1.symm]
    exact q.d
  have k3 := k2.trans (KeepT.dct hh (o := .dK (lhDict sh ca g')))
  have lh : l ≠ h := fun e => by rw [e, q.d] at hl; cases hl
  refine ⟨upd_same, ?_, ?_, ?_, ?_, ?_, q.sp, q.cp, q.sc⟩
  · rw [upd_ne q.hs.1, upd_ne q.sc, upd_same, List.map_append]
    rfl
  · rw [edsTo_app]
    refine Sheets.app (q.S.keepT k3 fun e he o ho => ?_) (.cons as ?_ (hc.keepT k3) .nil)
    · rw [upd_ne (q.hs.2.2 e he), upd_ne (q.n e he).2.2, upd_ne (q.n e he).2.1]
      exact ho
    · rw [upd_ne lh, upd_ne n.2.2, upd_ne n.2.1]
      exact hl
  · rw [upd_ne q.hs.2.1, upd_same, List.map_append]
    rfl
  · exact (q.C.keepT k3).app (.cons (sqT_keepT k3 ht) .nil)
  · intro e he
    rcases List.mem_append.mp he with he | he
    · exact q.n e he
    · rw [List.mem_singleton] at he
      rw [he]
      exact n
theorem lh_get {K : PySem.W.Frag} {p h sh ca : Addr} {cs : List Col} {chs : List Ch} {es ts : List Addr} {g : Int} {H : Hp} (q : LhI K p h sh ca cs chs es ts g H) : DGet H h (.str "sheets") (some (.ref sh)) ∧ DGet H h (.str "changes") (some (.ref ca)) ∧ DGet H h (.str "given") (some (.int g)) := by
  obtain ⟨v1, v2, v3⟩ := lh_vals sh ca g
  refine ⟨?_, ?_, ?_⟩
  · rw [← v1]; exact DGet.k (k := Sum.inr "sheets") q.d
  · rw [← v2]; exact DGet.k (k := Sum.inr "changes") q.d
  · rw [← v3]; exact DGet.k (k := Sum.inr "given") q.d
/-- the present sheet -/
theorem LhI.last {K : PySem.W.Frag} {p h sh ca : Addr} {cs : List Col} {chs : List Ch} {es ts : List Addr} {g : Int} {H : Hp} (q : LhI K p h sh ca cs chs es ts g H) : ∃ e as, e ∈ es ∧ atI (es.map V.ref) (-1) = some (.ref e) ∧ H e = some (.lst (as.map V.ref)) ∧ LCols K H as (atC cs chs).1 := by
  have hl : es.length = chs.length + 1 := by rw [q.S.len, edsTo_len]
  have hi : chs.length < es.length := by omega
  obtain ⟨cs', as, h1, h2, h3⟩ := q.S.at_ (List.getElem?_eq_getElem hi)
  rw [edsTo_get (by omega), List.take_length] at h1
  obtain rfl := Option.some.inj h1
  refine ⟨es[chs.length], as, List.getElem_mem hi, ?_, h2, h3⟩
  have e : es = es.take chs.length ++ [es[chs.length]] := by
    have := List.take_append_getElem hi
    rw [this, List.take_of_length_le (by omega)]
  have e2 : es.map V.ref = (es.take chs.length).map V.ref ++ [.ref es[chs.length]] := by
    conv => lhs; rw [e]
    rw [List.map_append]
    rfl
  rw [e2]
  exact atI_last _ _
def sp_law_historyT (K : PySem.W.Frag) : Sp := fun vs H Q _ => ∃ (p : Addr) (z0 z1 n m : Int), vs = [.ref p, .int n, .int m] ∧ H p = some (.lst [.int z0, .int z1]) ∧ 0 ≤ n ∧ n ≤ 40 ∧ 1 ≤ m ∧ m ≤ 99 ∧
  ∀ (h : Addr) (cs : List Col) (chs : List Ch) (y0 y1 : Int) (H' : Hp), H h = none → But p H H' → H' p = some (.lst [.int y0, .int y1]) → LhAt K H' h cs chs → HistOk cs chs → (chs.length : Int) ≤ n → (∀ c ∈ cs, c.name ∈ nm3) → (∀ ch ∈ chs, nmCh ch = true) → (∀ c ∈ cs, c.top ≤ m) → Q (.ref h) H'
theorem ok_law_historyT (T : Tx K mg) : Callee P w K mg base CX0 5 "_law_history" ["_law_pool_here", "_law_many", "_law_most"] [] (sp_law_historyT K) := by
  have Cf := ok_law_first (P := P) (w := w) (base := base) T
  have Cc := ok_law_change (P := P) (w := w) (base := base) T
  have Cw := (ok_word (P := P) (w := w) (base := base) T).up (show 1 ≤ 4 by decide)
  have Ct := (ok_then (P := P) (w := w) (base := base) T).up (show 3 ≤ 4 by decide)
  have Cd := (ok_draw (P := P) (w := w) (base := base) T).up (show 1 ≤ 4 by decide)
  refine mkCallee (fd__law_history T) (mg__law_history T) sc__law_history (fun _ _ _ _ _ _ us hl => match us, hl with | [_, _, _], _ => rfl) (fun vs H Q E h => ?_) (fun cdv A outer s H vs Q E hr h => ?_)
  · obtain ⟨p, z0, z1, n, m, rfl, _⟩ := h
    rfl
  · obtain ⟨p, z0, z1, n, m, rfl, hp, hn0, hn1, h0, h1, k⟩ := h
    have nd := sc__law_history.nd
    have hu := hu_of hr
    have gi : mg "int" = none := fr_int T
    refine ⟨_, pss_cons (ps_set (i := 3) nd rfl (Or.inl rfl) (pe_disp (pps_cons pe_str (pe_lst (pa_cons (pcall Cf hr (pa_cons (pv 0) (pa_cons (pv 2) pa_nil))) pa_nil)) (pps_cons pe_str (pe_lst pa_nil) (pps_cons pe_str pe_int pps_nil))) (by rfl) (by rfl) (fun z => by cases z) (by decide)))
      (pss_cons (ps_dput hu (pv 3) pe_str (pe_callB call_len (by rfl) (fr_len T) PySem.boot_len (pa_cons (pe_ix ix_list (pe_dget hu (pv 3) pe_str (fun _ _ => rfl)) pe_int (fun _ _ => rfl)) pa_nil)) rfl)
      (pss_cons (ps_for PassesOwn.never rfl (pi_range1 (by rfl) (fr_range T) (pa_cons (pcall Cd hr (pa_cons (pv 0) (pa_cons (pe_op op_add (pv 1) pe_int) pa_nil))) pa_nil)) (pg_name (i := 4) nd rfl (Or.inl rfl))
        (pss_cons (ps_set (i := 5) nd rfl (Or.inl rfl) (pcall Cc hr (pa_cons (pv 0) (pa_cons (pv 2) pa_nil))))
        (pss_one (ps_if (pt_cmpR op_isN (pcall Cw hr (pa_cons (pe_ix ix_list (pe_dget hu (pv 3) pe_str (fun _ _ => rfl)) (pe_un un_neg pe_int) (fun _ _ => rfl)) (pa_cons (pv 5) pa_nil))) pe_non (nomark _))
          (pss_cons (ps_expr (pe_bm PySem.F.plainAttrs_list PySem.F.slot_list_append PySem.F.type_list_append mt_append (pe_dget hu (pv 3) pe_str (fun _ _ => rfl)) (pa_cons (pcall Ct hr (pa_cons (pe_ix ix_list (pe_dget hu (pv 3) pe_str (fun _ _ => rfl)) (pe_un un_neg pe_int) (fun _ _ => rfl)) (pa_cons (pv 5) (pa_cons (pe_dget hu (pv 3) pe_str (fun _ _ => rfl)) pa_nil)))) pa_nil)))
          (pss_cons (ps_expr (pe_bm PySem.F.plainAttrs_list PySem.F.slot_list_append PySem.F.type_list_append mt_append (pe_dget hu (pv 3) pe_str (fun _ _ => rfl)) (pa_cons (pv 5) pa_nil)))
          (pss_one (ps_dput hu (pv 3) pe_str (pe_op op_add (pe_dget hu (pv 3) pe_str (fun _ _ => rfl)) (pe_callTy call_int1 (by rfl) gi (by decide +kernel) (pa_cons (pe_cmpR op_eq (pe_ix ix_tup (pv 5) pe_int (fun _ _ => rfl)) pe_str (nomark _)) pa_nil))) rfl)))) pss_nil))))
      (pss_one (ps_ret (pv 3))))), ?_⟩
    -- the dict
    refine q_asgX fun h nh => ?_
    have nph : h ≠ p := npool0 hp nh
    refine ⟨_, rfl, _, rfl, p, z0, z1, m, rfl, same_new nh _ _ hp, h0, h1, fun l as cs y0 y1 H1 nl b1 hp1 hl1 hc1 gd pl le2 nms tops => ⟨by show 1 ≤ sizeLine; decide, fun sh nsh => ⟨by show 0 ≤ sizeLine; decide, fun ca nca => ?_⟩⟩⟩
    have hd1 : H1 h = some (.dK []) := b1 _ _ nph upd_same
    have nlh : l ≠ h := fun e => by rw [e, upd_same] at nl; cases nl
    have nlp : l ≠ p := fun e => by rw [e, upd_ne nph.symm, hp] at nl; cases nl
    refine ⟨same_new nca _ _ (same_new nsh _ _ hd1), [(Sum.inr "sheets", .ref sh), (Sum.inr "changes", .ref ca), (Sum.inr "given", .int 0)], rfl, (by show 3 ≤ 15; decide), ?_⟩
    rw [lh_merge]
    have e1 : h ≠ sh := ne_of_none hd1 nsh
    have e2 : p ≠ sh := ne_of_none hp1 nsh
    have e3 : l ≠ sh := ne_of_none hl1 nsh
    have e4 : sh ≠ ca := ne_of_none upd_same nca
    have e5 : h ≠ ca := ne_of_none (same_new nsh _ _ hd1) nca
    have e6 : p ≠ ca := ne_of_none (same_new nsh _ _ hp1) nca
    have e7 : l ≠ ca := ne_of_none (same_new nsh _ _ hl1) nca
    have s3 := (same_new (o := .lst [.ref l]) nsh).trans (same_new (o := .lst []) nca)
    have nold : ∀ b o, b ≠ p → H b = some o → b ≠ sh ∧ b ≠ ca := fun b o hb e => by
      have q := b1 _ _ hb (same_new nh _ _ e)
      exact ⟨ne_of_none q nsh, ne_of_none (same_new nsh _ _ q) nca⟩
    have hA : LhI K p h sh ca cs [] [l] [] 0 (upd (upd (upd H1 sh (.lst [.ref l])) ca (.lst [])) h (.dK (lhDict sh ca 0))) := by
      have kt : KeepT H1 (upd (upd (upd H1 sh (.lst [.ref l])) ca (.lst [])) h (.dK (lhDict sh ca 0))) := (KeepT.of s3).trans (KeepT.dct (s3 _ _ hd1))
      refine ⟨upd_same, ?_, ?_, ?_, .nil, ?_, e2.symm, e6.symm, e4⟩
      · rw [upd_ne e1.symm]
        exact same_new nca _ _ upd_same
      · show Sheets K _ [l] [cs]
        refine .cons as ?_ (hc1.keepT kt) .nil
        rw [upd_ne nlh]
        exact s3 _ _ hl1
      · rw [upd_ne e5.symm]
        exact upd_same
      · intro e he
        rw [List.mem_singleton] at he
        rw [he]
        exact ⟨nlp, e3, e7⟩
    have hpA : upd (upd (upd H1 sh (.lst [.ref l])) ca (.lst [])) h (.dK (lhDict sh ca 0)) p = some (.lst [.int y0, .int y1]) := by
      rw [upd_ne nph.symm]
      exact s3 _ _ hp1
    have bA : But p H (upd (upd (upd H1 sh (.lst [.ref l])) ca (.lst [])) h (.dK (lhDict sh ca 0))) := fun b o hb e => by
      rw [upd_ne (ne_of_none e nh)]
      exact s3 _ _ (b1 _ _ hb (same_new nh _ _ e))
    generalize upd (upd (upd H1 sh (.lst [.ref l])) ca (.lst [])) h (.dK (lhDict sh ca 0)) = HA at hA hpA bA
    obtain ⟨ea, asa, hm, _, hea, hca⟩ := hA.last
    rw [List.mem_singleton] at hm
    subst hm
    refine ⟨_, rfl, h, .ref sh, rfl, (lh_get hA).1, sh, _, 0, _, rfl, rfl, sqL_of hA.s, rfl, _, asa.length, rfl, .inl ⟨_, sqL_of hea, by rw [List.length_map]⟩, _, rfl, h, _, rfl, DPut.k (k := Sum.inr "given") hA.d (by show 3 < sizeLine; decide), ?_⟩
    rw [lh_put]
    have hgv : ((asa.length : Nat) : Int) = (atC cs []).2 := by rw [hca.len]; rfl
    rw [hgv]
    have hB := hA.given (atC cs []).2
    have hpB : upd HA h (.dK (lhDict sh ca (atC cs []).2)) p = some (.lst [.int y0, .int y1]) := by rw [upd_ne nph.symm]; exact hpA
    have bB : But p H (upd HA h (.dK (lhDict sh ca (atC cs []).2))) := fun b o hb e => by
      rw [upd_ne (ne_of_none e nh)]
      exact bA _ _ hb e
    generalize upd HA h (.dK (lhDict sh ca (atC cs []).2)) = HB at hB hpB bB
    clear hA hpA bA hca hea hgv s3 hl1 hc1 hp1 hd1 b1 nca nsh
    -- the turns
    refine ⟨_, rfl, _, rfl, _, _, rfl, rfl, p, y0, y1, _, rfl, hpB, by omega, by omega, fun r u0 u1 r0 r1 => ⟨r, rfl, by omega, by omega, ?_⟩⟩
    refine for_range (lo := 0) (n := r.toNat) (fun i σ H' => ∃ (chs : List Ch) (es ts : List Addr) (y0 y1 : Int) (x4 x5 : Option V), σ = [some (.ref p), some (.int n), some (.int m), some (.ref h), x4, x5] ∧ But p H H' ∧ H' p = some (.lst [.int y0, .int y1]) ∧
      LhI K p h sh ca cs chs es ts (atC cs chs).2 H' ∧ Fits cs chs ∧ chs.length ≤ i ∧ ∀ ch ∈ chs, nmCh ch = true) ⟨[], [ea], [], u0, u1, none, none, rfl, bB.trans But.mut, upd_same, hB.but hpB But.mut, (fun i ch hc => by simp at hc), Nat.le_refl _, fun ch hc => by cases hc⟩ ?_ ?_
    · rintro i σ H' hi ⟨chs, es, ts, y0, y1, x4, x5, rfl, b', hp', q', f', l', nch⟩
      have hcl : chs.length ≤ 40 := by omega
      have gd' := f'.good gd chs.length (Nat.le_refl _)
      rw [List.take_length] at gd'
      refine ⟨_, rfl, _, rfl, p, y0, y1, m, rfl, hp', h0, h1, fun t ch w0 w1 H2 hf hn3 b2 hp2 ht => ?_⟩
      have q2 := q'.but hp' b2
      have b02 := b'.trans b2
      obtain ⟨e, as', he, hat, hel, hec⟩ := q2.last
      have hal : as'.length ≤ 6 := by rw [hec.len]; exact gd'.six
      have hes : es.length ≤ 41 := by rw [q2.S.len, edsTo_len]; omega
      refine ⟨_, rfl, h, .ref sh, rfl, (lh_get q2).1, _, rfl, sh, _, _, .ref e, rfl, rfl, sqL_of q2.s, hat, _, rfl, e, t, as', (atC cs chs).1, ch, rfl, hel, hec, ht, by omega, hf, fun c hc => (gd'.ok c hc).1, fun H3 s3 => ⟨rfl, _, rfl, ?_⟩⟩
      have q3 := q2.same s3
      have hp3 := s3 _ _ hp2
      have b03 := b02.trans (But.of s3)
      by_cases hz : hindV (atC cs chs).1 ch = .non
      · rw [decide_eq_true hz]
        have gs := gd'.step hf hz
        refine iteT ⟨_, rfl, h, .ref sh, rfl, (lh_get q3).1, .inl ⟨rfl, _, sqL_of q3.s⟩, _, rfl, h, .ref sh, rfl, (lh_get q3).1, _, rfl, sh, _, _, .ref e, rfl, rfl, sqL_of q3.s, hat, _, rfl, _, rfl, h, _, rfl, (lh_get q3).2.2, ?_⟩
        refine ⟨e, t, as', (atC cs chs).1, ch, (atC cs chs).2, rfl, s3 _ _ hel, hec.keep s3, ht.keep s3, by omega, hf, fun c hc => ?_, fun c hc => (gs.ok c hc).1.df, fun l1 as1 H4 nl1 s4 hl4 hc4 => ?_⟩
        · have := (gd'.ok c hc).1.df
          cases hd : c.dflt with
          | non => rfl
          | int _ => rfl
          | _ => rw [hd] at this; cases this
        have q4 := q3.same s4
        have hp4 := s4 _ _ hp3
        have n1 : l1 ≠ p := fun z => by rw [z, hp3] at nl1; cases nl1
        have n2 : l1 ≠ sh := fun z => by rw [z, q3.s] at nl1; cases nl1
        have n3 : l1 ≠ ca := fun z => by rw [z, q3.c] at nl1; cases nl1
        have M := q4.more (numThen ch (atC cs chs).2) hl4 hc4 ((ht.keep s3).keep s4) ⟨n1, n2, n3⟩
        have hesz : (es.map V.ref).length < sizeLine := by
          have e : sizeLine = 16777216 := by decide
          rw [List.length_map]
          omega
        have htsz : (ts.map V.ref).length < sizeLine := by
          have e : sizeLine = 16777216 := by decide
          rw [List.length_map, q4.C.len]
          omega
        refine ⟨sh, _, _, rfl, rfl, q4.s, hesz, ?_⟩
        have h5d : upd H4 sh (.lst (es.map V.ref ++ [.ref l1])) h = some (.dK (lhDict sh ca (atC cs chs).2)) := by rw [upd_ne q4.hs.1.symm]; exact q4.d
        have h5c : upd H4 sh (.lst (es.map V.ref ++ [.ref l1])) ca = some (.lst (ts.map V.ref)) := by rw [upd_ne q4.sc.symm]; exact q4.c
        have h5p : upd H4 sh (.lst (es.map V.ref ++ [.ref l1])) p = some (.lst [.int w0, .int w1]) := by rw [upd_ne q4.sp.symm]; exact hp4
        have h5t : ChAt K (upd H4 sh (.lst (es.map V.ref ++ [.ref l1]))) t ch := sqT_keepT (KeepT.lst q4.s) ((ht.keep s3).keep s4)
        obtain ⟨v1, v2, v3⟩ := lh_vals sh ca (atC cs chs).2
        have g5 : DGet (upd H4 sh (.lst (es.map V.ref ++ [.ref l1]))) h (.str "changes") (some (.ref ca)) := by rw [← v2]; exact DGet.k (k := Sum.inr "changes") h5d
        refine ⟨_, rfl, h, .ref ca, rfl, g5, .inl ⟨rfl, _, sqL_of h5c⟩, _, rfl, ca, _, _, rfl, rfl, h5c, htsz, ?_⟩
        have h6d : upd (upd H4 sh (.lst (es.map V.ref ++ [.ref l1]))) ca (.lst (ts.map V.ref ++ [.ref t])) h = some (.dK (lhDict sh ca (atC cs chs).2)) := by rw [upd_ne q4.hs.2.1.symm]; exact h5d
        have h6t := sqT_keepT (KeepT.lst h5c (o := .lst (ts.map V.ref ++ [.ref t]))) h5t
        have g6 : DGet (upd (upd H4 sh (.lst (es.map V.ref ++ [.ref l1]))) ca (.lst (ts.map V.ref ++ [.ref t]))) h (.str "given") (some (.int (atC cs chs).2)) := by rw [← v3]; exact DGet.k (k := Sum.inr "given") h6d
        refine ⟨_, rfl, h, _, rfl, g6, _, rfl, t, _, 0, _, rfl, rfl, h6t, ch.at0, rfl, .inr ⟨_, rfl, _, _, rfl, rfl, _, rfl, h, _, rfl, DPut.k (k := Sum.inr "given") h6d (by show 3 < sizeLine; decide), ?_⟩⟩
        rw [lh_put]
        have hv : (atC cs chs).2 + (if decide (V.str ch.kind = V.str "add") = true then 1 else 0) = numThen ch (atC cs chs).2 := by
          by_cases hk : ch.kind = "add"
          · rw [if_pos (decide_eq_true (by rw [hk])), kind_add hk]
          · rw [if_neg (by rw [decide_eq_false (nes hk)]; decide), kind_noadd hk, Int.add_zero]
        rw [hv]
        refine ⟨chs ++ [ch], es ++ [l1], ts ++ [t], w0, w1, _, _, rfl, ?_, ?_, by rw [atC_app]; exact M, f'.app hf hz, by rw [List.length_append]; show chs.length + 1 ≤ i + 1; omega, fun c hc => ?_⟩
        · intro b o hb eb
          have nbh : b ≠ h := ne_of_none eb nh
          rw [upd_ne nbh, upd_ne (nold b o hb eb).2, upd_ne (nold b o hb eb).1]
          exact (b03.trans (But.of s4)) _ _ hb eb
        · rw [upd_ne nph.symm, upd_ne q4.cp.symm]
          exact h5p
        · rcases List.mem_append.mp hc with hc | hc
          · exact nch c hc
          · rw [List.mem_singleton.mp hc]
            exact hn3
      · rw [decide_eq_false hz]
        exact iteF ⟨chs, es, ts, w0, w1, _, _, rfl, b03, hp3, q3, f', by omega, nch⟩
    · rintro σ H' ⟨chs, es, ts, y0, y1, x4, x5, rfl, b', hp', q', f', l', nch⟩
      exact ⟨_, rfl, k h cs chs y0 y1 H' nh b' hp' ⟨sh, ca, es, ts, q'.d, q'.s, q'.S, q'.c, q'.C⟩ ⟨pl, gd, f', by omega⟩ (by omega) nms nch tops⟩
def sp_law_historyN (K : PySem.W.Frag) : Sp := fun vs H Q _ => ∃ (p : Addr) (z0 z1 n m : Int), vs = [.ref p, .int n, .int m] ∧ H p = some (.lst [.int z0, .int z1]) ∧ 0 ≤ n ∧ n ≤ 40 ∧ 1 ≤ m ∧ m ≤ 99 ∧
  ∀ (h : Addr) (cs : List Col) (chs : List Ch) (y0 y1 : Int) (H' : Hp), H h = none → But p H H' → H' p = some (.lst [.int y0, .int y1]) → LhAt K H' h cs chs → HistOk cs chs → (chs.length : Int) ≤ n → (∀ c ∈ cs, c.name ∈ nm3) → (∀ ch ∈ chs, nmCh ch = true) → Q (.ref h) H'
theorem ok_law_historyN (T : Tx K mg) : Callee P w K mg base CX0 5 "_law_history" ["_law_pool_here", "_law_many", "_law_most"] [] (sp_law_historyN K) := by
  obtain ⟨⟨fd, ds, F, b, v⟩, kp, g⟩ := ok_law_historyT (P := P) (w := w) (base := base) T
  refine ⟨⟨fd, ds, F.imp fun vs H Q E h => ?_, b, v⟩, kp, g⟩
  obtain ⟨p, z0, z1, n, m, e, hp, a, b, c, d, k⟩ := h
  exact ⟨p, z0, z1, n, m, e, hp, a, b, c, d, fun h cs chs y0 y1 H' h1 h2 h3 h4 h5 h6 h7 h8 _ => k h cs chs y0 y1 H' h1 h2 h3 h4 h5 h6 h7 h8⟩
def sp_law_history (K : PySem.W.Frag) : Sp := fun vs H Q _ => ∃ (p : Addr) (z0 z1 n m : Int), vs = [.ref p, .int n, .int m] ∧ H p = some (.lst [.int z0, .int z1]) ∧ 0 ≤ n ∧ n ≤ 40 ∧ 1 ≤ m ∧ m ≤ 99 ∧
  ∀ (h : Addr) (cs : List Col) (chs : List Ch) (y0 y1 : Int) (H' : Hp), H h = none → But p H H' → H' p = some (.lst [.int y0, .int y1]) → LhAt K H' h cs chs → HistOk cs chs → (chs.length : Int) ≤ n → Q (.ref h) H'
theorem ok_law_history (T : Tx K mg) : Callee P w K mg base CX0 5 "_law_history" ["_law_pool_here", "_law_many", "_law_most"] [] (sp_law_history K) := by
  obtain ⟨⟨fd, ds, F, b, v⟩, kp, g⟩ := ok_law_historyN (P := P) (w := w) (base := base) T
  refine ⟨⟨fd, ds, F.imp fun vs H Q E h => ?_, b, v⟩, kp, g⟩
  obtain ⟨p, z0, z1, n, m, e, hp, a, b, c, d, k⟩ := h
  exact ⟨p, z0, z1, n, m, e, hp, a, b, c, d, fun h cs chs y0 y1 H' h1 h2 h3 h4 h5 h6 _ _ => k h cs chs y0 y1 H' h1 h2 h3 h4 h5 h6⟩
-- needs: History.__eq__ History.__init__ +HISP
/-! the same History again -/
theorem fits_all {cs : List Col} {chs : List Ch} (f : Fits cs chs) : ∀ ch ∈ chs, ch.fits = true := fun ch hc => by
  obtain ⟨i, hi⟩ := List.mem_iff_getElem?.mp hc
  exact (f i ch hi).1
theorem ok_vals {cs : List Col} {n : Int} (g : Good cs n) : ∀ c ∈ cs, isVal c.dflt = true := fun c hc => by
  have h := (g.ok c hc).1.df
  cases hd : c.dflt with
  | non => rfl
  | int i =>
    rw [hd] at h
    exact (Bool.and_eq_true_iff.mp h).1
  | _ => rw [hd] at h; cases h
theorem histEq_self {cs : List Col} {chs : List Ch} (f : Fits cs chs) : histEq cs chs cs chs = true := by
  unfold histEq
  rw [colsEqB_self, Bool.true_and]
  exact chs_eqv (fits_all f)

/-! what laws say of their own histories and rows -/
theorem Sheets.keepP {K : PySem.W.Frag} {H H' : Hp} {p : Addr} {y0 y1 : Int} (hp : H p = some (.lst [.int y0, .int y1])) (bt : But p H H') : ∀ {es : List Addr} {eds : List (List Col)}, Sheets K H es eds → Sheets K H' es eds
  | _, _, .nil => .nil
  | _, _, .cons as h c t => .cons as (bt _ _ (fun e => by rw [e, hp] at h; exact refs_no (HO.lst.inj (Option.some.inj h)).symm) h) (c.keepNL (KeepNL.ofBut hp bt)) (t.keepP hp bt)
theorem LhAt.but {K : PySem.W.Frag} {H H' : Hp} {h p : Addr} {cs : List Col} {chs : List Ch} {y0 y1 : Int} (q : LhAt K H h cs chs) (hp : H p = some (.lst [.int y0, .int y1])) (bt : But p H H') : LhAt K H' h cs chs := by
  obtain ⟨sh, ch, es, ts, h1, h2, h3, h4, h5⟩ := q
  have kn := KeepNL.ofBut hp bt
  refine ⟨sh, ch, es, ts, kn _ _ (fun _ z => by cases z) h1, bt _ _ (fun z => ?_) h2, h3.keepP hp bt, bt _ _ (fun z => ?_) h4, h5.keepNL kn⟩
  · rw [z, hp] at h2
    exact refs_no (HO.lst.inj (Option.some.inj h2)).symm
  · rw [z, hp] at h4
    exact refs_no (HO.lst.inj (Option.some.inj h4)).symm
theorem lat_get {H : Hp} {h : Addr} {sh ch : Addr} {n : Int} (q : H h = some (.dK (lhDict sh ch n))) : DGet H h (.str "sheets") (some (.ref sh)) ∧ DGet H h (.str "changes") (some (.ref ch)) ∧ DGet H h (.str "given") (some (.int n)) := by
  obtain ⟨v1, v2, v3⟩ := lh_vals sh ch n
  refine ⟨?_, ?_, ?_⟩
  · rw [← v1]; exact DGet.k (k := Sum.inr "sheets") q
  · rw [← v2]; exact DGet.k (k := Sum.inr "changes") q
  · rw [← v3]; exact DGet.k (k := Sum.inr "given") q

/-! a law's history, its lists put anew -/
theorem lh_put1 {sh sh' ch : Addr} {n : Int} : putK (lhDict sh ch n) (Sum.inr "sheets") (.ref sh') = lhDict sh' ch n := by
  have h1 : ¬ ((Sum.inr "changes" : Key) = (Sum.inr "sheets" : Key)) := by decide +kernel
  have h2 : ¬ ((Sum.inr "given" : Key) = (Sum.inr "sheets" : Key)) := by decide +kernel
  simp [lhDict, putK, h1, h2]
theorem lh_put2 {sh ch ch' : Addr} {n : Int} : putK (lhDict sh ch n) (Sum.inr "changes") (.ref ch') = lhDict sh ch' n := by
  have h1 : ¬ ((Sum.inr "sheets" : Key) = (Sum.inr "changes" : Key)) := by decide +kernel
  have h2 : ¬ ((Sum.inr "given" : Key) = (Sum.inr "changes" : Key)) := by decide +kernel
  simp [lhDict, putK, h1, h2]
theorem cut_one {x : V} {xs : List V} : cutV (x :: xs) none (some 1) = [x] := by
  unfold cutV
  have e1 : HT.sIx (x :: xs).length 0 none = 0 := rfl
  have e2 : HT.sIx (x :: xs).length (x :: xs).length (some 1) = 1 := by
    show HT.sIx (x :: xs).length (x :: xs).length (some ((1 : Nat) : Int)) = 1
    rw [HT.sIx_nat, List.length_cons]
    omega
  rw [e1, e2]
  rfl
/-- a sheet of the law's history, as it is looked up -/
theorem LhAt.sheet {K : PySem.W.Frag} {H : Hp} {h : Addr} {cs : List Col} {chs : List Ch} (q : LhAt K H h cs chs) {m : Nat} (hm : m ≤ chs.length) : ∃ (sh : Addr) (es : List Addr) (e : Addr) (as : List Addr), DGet H h (.str "sheets") (some (.ref sh)) ∧ H sh = some (.lst (es.map V.ref)) ∧ es.length = chs.length + 1 ∧
    es[m]? = some e ∧ H e = some (.lst (as.map V.ref)) ∧ LCols K H as (atC cs (chs.take m)).1 := by
  obtain ⟨sh, ch, es, ts, q1, q2, q3, q4, q5⟩ := q
  have hl : es.length = chs.length + 1 := by rw [q3.len, edsTo_len]
  have hem : es[m]? = some (es[m]'(by omega)) := List.getElem?_eq_getElem (by omega)
  obtain ⟨ci, as, hci, hea, hec⟩ := q3.at_ hem
  rw [edsTo_get (by omega)] at hci
  obtain rfl := Option.some.inj hci
  exact ⟨sh, es, _, as, (lat_get q1).1, q2, hl, hem, hea, hec⟩

/-! repr of None, a bool, an int, a text -/
def reprV : V → Str
  | .non => "None"
  | .bl b => if b then "True" else "False"
  | .int i => toString i
  | .str x => reprText x
  | _ => ""
def okR : V → Bool
  | .non => true
  | .bl _ => true
  | .int i => decide (i.natAbs.log2 < 1920)
  | .str x => decide ((reprText x).length ≤ sizeLine)
  | _ => false
theorem call_reprV {X : Cx} : CallR X (.builtin "repr") (fun xs H Q => ∃ v, xs = [v] ∧ okR v = true ∧ Q (.str (reprV v)) H) := by
  intro pins s σ H xs us Q I r h
  obtain ⟨v, rfl, ok, q⟩ := h
  obtain ⟨u, rfl, hu⟩ := vals1 r
  cases v with
  | non =>
    obtain rfl : u = Value.none := hu
    exact PySem.P.repr_of_none ⟨.str _, H, I.tok _, ⟨_, rfl⟩, q⟩
  | bl b =>
    obtain rfl : u = Value.bool b := hu
    exact PySem.P.repr_of_bool ⟨.str _, H, I.tok _, ⟨_, rfl⟩, q⟩
  | int i =>
    obtain ⟨t, rfl⟩ := hu
    exact PySem.P.repr_of_int (of_decide_eq_true ok) ⟨.str _, H, I.tok _, ⟨_, rfl⟩, q⟩
  | str x =>
    obtain ⟨t, rfl⟩ := hu
    exact PySem.P.repr_of_str ⟨.str _, H, I.tok _, ⟨_, rfl⟩, q⟩ (of_decide_eq_true ok)
  | _ => cases ok
theorem strOk_of (s : String) : PyData.strOk (Str.ofString s) = true := by
  rw [Str.ofString_eq_toList]
  unfold PyData.strOk
  rw [List.all_toArray, List.all_map, List.all_eq_true]
  intro c _
  refine decide_eq_true ?_
  show c.toNat < 1114112
  have := c.valid
  unfold UInt32.isValidChar Nat.isValidChar at this
  have e : c.toNat = c.val.toNat := rfl
  omega
theorem repr_okV : ∀ {v : V}, (∀ x, v ≠ .str x) → okR v = true → okV (.str (reprV v)) = true
  | .non, _, _ => by decide +kernel
  | .bl true, _, _ => by decide +kernel
  | .bl false, _, _ => by decide +kernel
  | .int i, _, _ => strOk_of (toString i)
  | .str x, h, _ => absurd rfl (h x)
  | .byt _, _, h => by cases h
  | .flt _, _, h => by cases h
  | .ref _, _, h => by cases h
  | .ty _, _, h => by cases h

/-! a comparison by either of two readings; two lists [word, text] that are the same -/
theorem op_or {X : Cx} {o : Value → Value → Sem Value} {r1 r2 : R2} (h1 : OpR X o r1) (h2 : OpR X o r2) : OpR X o (fun x y H Q => r1 x y H Q ∨ r2 x y H Q) := fun pins s σ H x y v u Q I rx ry h => by
  rcases h with h | h
  · exact h1 pins s σ H x y v u Q I rx ry h
  · exact h2 pins s σ H x y v u Q I rx ry h
theorem ne_two {K : PySem.W.Frag} {H : Hp} {p q : Addr} {w z : Str} {Q : VK} (hp : H p = some (.lst [.str w, .str z])) (hq : H q = some (.lst [.str w, .str z])) (ow : okV (.str w) = true) (oz : okV (.str z) = true) (k : Q (.bl false) H) : rNeD K (.ref p) (.ref q) H Q := by
  have sh : SeqAt.shaped (.list [.str w, .str z]) = true := by
    have ow : PyData.canLay0 (.str w) = true := ow
    have oz : PyData.canLay0 (.str z) = true := oz
    show ((PyData.canLay0 (.str w) && (PyData.canLay0 (.str z) && true)) && true) = true
    rw [ow, oz]
    rfl
  refine ⟨.list [.str w, .str z], .list [.str w, .str z], .lst (sqL_of hp) (.cons (.str w) (.cons (.str z) .nil)), .lst (sqL_of hq) (.cons (.str w) (.cons (.str z) .nil)), sh, sh, ?_⟩
  have e : PyData.eqv (.list [.str w, .str z]) (.list [.str w, .str z]) = true := by
    show ((w == w) && ((z == z) && true)) = true
    rw [beq_self_eq_true, beq_self_eq_true]
    rfl
  rw [e]
  exact k
theorem okR_int {i : Int} (h0 : 0 ≤ i) (h1 : i ≤ 1000) : okR (.int i) = true := by
  refine decide_eq_true ?_
  by_cases z : i.natAbs = 0
  · rw [z]
    decide
  · exact Nat.lt_of_lt_of_le ((Nat.log2_lt z).mpr (show i.natAbs < 2 ^ 10 by omega)) (by decide)

/-! readings, one step on -/
theorem pl_lstV {ta : TA} {σ : L2.St} {H : Hp} {Q : VK} (h : ta σ H fun xs H1 => xs.length ≤ sizeLine ∧ ∀ p, H1 p = none → Q (.ref p) (upd H1 p (.lst xs))) : tLst ta σ H Q := h
theorem pl_parV {ta : TA} {i j : Nat} {U : TS} {D : Ends} {σ : L2.St} {H : Hp} (h : ta σ H fun vs H1 => ∃ v w, vs = [v, w] ∧ U D ((σ.set i (some v)).set j (some w)) H1) : tSeq (tPar i j ta) U D σ H := h

/-! _law_handed_right: what is handed is spoilt behind the making -/
def sp_handed (K : PySem.W.Frag) : Sp := fun vs H Q _ => ∃ (h h2 : Addr) (cs : List Col) (chs : List Ch), vs = [.ref h, .ref h2] ∧ LhAt K H h cs chs ∧ HistAt K H h2 cs chs ∧ HistOk cs chs ∧ ∀ H', Same H H' → Q (.bl true) H'
theorem ok_handed (T : Tx K mg) : Callee P w K mg base CX0 13 "_law_handed_right" ["_law_h", "_law_history_here"] [] (sp_handed K) := by
  have C1 := (ok_lcols (P := P) (w := w) (base := base) T).up (show 6 ≤ 12 by decide)
  obtain ⟨fdI, GI, FI⟩ := ok_Hist_initN (P := P) (w := w) (base := base) T
  have bI : Binds K fdI ["self", "columns", "changes"] [] := by
    have h := FI.binds1 (ps := ["self", "columns", "changes"]) 3 1 (by intro z; cases z) rfl (fun TT kV doc pm an cdv ct us its h1 h2 => ?_)
    · obtain ⟨ds, v, b⟩ := h
      cases ds with
      | nil => exact b
      | cons _ _ => cases v
    · match us, h1, its, h2 with
      | [u0, u1, u2], _, [i0], _ => exact ⟨_, rfl, rfl⟩
  obtain ⟨fdQ, FQ, bQ⟩ := ok_Hist_eq (P := P) (w := w) (base := base) T
  obtain ⟨fdE, FE, bE⟩ := ok_Col_eq (P := P) (w := w) (base := base) T
  obtain ⟨fdC, FC, bC⟩ := ok_Hist_changes (P := P) (w := w) (base := base) T
  obtain ⟨fdF, FF, bF⟩ := ok_Hist_first (P := P) (w := w) (base := base) T
  refine mkCallee (fd__law_handed_right T) (mg__law_handed_right T) sc__law_handed_right (fun _ _ _ _ _ _ us hl => match us, hl with | [_, _], _ => rfl) (fun vs H Q E h => ?_) (fun cdv A outer s H vs Q E hr h => ?_)
  · obtain ⟨h, h2, cs, chs, rfl, _⟩ := h
    rfl
  obtain ⟨h, h2, cs, chs, rfl, hL, hH, o, k⟩ := h
  have nd := sc__law_handed_right.nd
  have hu := hu_of hr
  have hr1 : Room 1 _ := hr.mono (by decide)
  have hr2 : Room 2 _ := hr.mono (by decide)
  have hr3 : Room 3 _ := hr.mono (by decide)
  have hz : sizeLine = 16777216 := by decide
  refine ⟨_, (pss_cons (ps_par (i := 2) (j := 3) rfl nd rfl rfl (by decide) rfl rfl (pa_cons (pcall C1 hr (pa_cons (pe_ix ix_list (pe_dget hu (pv 0) pe_str (fun _ _ => rfl)) pe_int (fun _ _ => rfl)) pa_nil)) (pa_cons (pe_callTy call_list_of (by rfl) (fr_list T) (by decide +kernel) (pa_cons (pe_dget hu (pv 0) pe_str (fun _ _ => rfl)) pa_nil)) pa_nil)) (by rfl))
    (pss_cons (ps_set (i := 4) nd rfl (Or.inl rfl) (pe_make (mk_History T) GI hr (by rfl) (mg_History T) bI .nil pass0 (pa_cons (pv 2) (pa_cons (pv 3) pa_nil))))
    (pss_cons (ps_expr (pe_bm PySem.F.plainAttrs_list PySem.F.slot_list_append PySem.F.type_list_append mt_append (pv 2) (pa_cons pe_non pa_nil)))
    (pss_cons (ps_expr (pe_bm PySem.F.plainAttrs_list PySem.F.slot_list_append PySem.F.type_list_append mt_append (pv 3) (pa_cons (pe_tup (pa_cons pe_str (pa_cons pe_str (pa_cons pe_int pa_nil)))) pa_nil)))
    (pss_one (ps_ret (pe_and (pe_cmpR (op_eqOwn FQ (me_History___eq__ T) hr3 bQ pass0) (pv 4) (pv 1) (nomark _))
      (pe_and (pe_cmpR (op_eqD (hr64 hr)) (pe_meth0 (pv 4) (cl_History T) (me_History_changes_told T) FC hr1 bC .nil pass0) (pe_dget hu (pv 0) pe_str (fun _ _ => rfl)) (nomark _))
      (pe_one (pe_cmpR (op_eqBG (rcB_list (mon_insB colRB_mon) (eqBG_col FE (me_Column___eq__ T) bE)) hr2) (pe_meth0 (pv 4) (cl_History T) (me_History_first_columns T) FF hr1 bF .nil pass0) (pcall C1 hr (pa_cons (pe_ix ix_list (pe_dget hu (pv 0) pe_str (fun _ _ => rfl)) pe_int (fun _ _ => rfl)) pa_nil)) (nomark _))))))))))), ?_⟩
  obtain ⟨sh, ch, es, ts, q1, q2, q3, q4, q5⟩ := id hL
  obtain ⟨sh', es', e, as, w1, w2, w3, w4, w5, w6⟩ := hL.sheet (m := 0) (Nat.zero_le _)
  have w6 : LCols K H as cs := w6
  have six := o.g.six
  have few := o.few
  have okc : ∀ c ∈ cs, ColOk c := fun c hc => (o.g.ok c hc).1
  have aL : atI (es'.map V.ref) 0 = some (.ref e) := ix_int (by decide) (by rw [List.getElem?_map]; show es'[0]?.map V.ref = _; rw [w4]; rfl)
  refine pl_parV ?_
  refine ⟨_, rfl, h, .ref sh', rfl, w1, sh', _, 0, _, rfl, rfl, sqL_of w2, aL, e, as, cs, rfl, w5, w6, by rw [w6.len]; omega, okc, fun l1 as1 H1 n1 s1 hl1 hc1 => ?_⟩
  refine ⟨_, rfl, h, .ref ch, rfl, (lat_get (s1 _ _ q1)).2.1, ch, _, rfl, .inl (sqL_of (s1 _ _ q4)), fun l2 n2 => ⟨_, _, rfl, ?_⟩⟩
  have s2 : Same H1 (upd H1 l2 (.lst (ts.map V.ref))) := same_new n2
  have hl2 : upd H1 l2 (.lst (ts.map V.ref)) l2 = some (.lst (ts.map V.ref)) := upd_same
  have n2' : H l2 = none := s1.free n2
  have ne12 : l1 ≠ l2 := fun z => by rw [← z, hl1] at n2; cases n2
  generalize upd H1 l2 (.lst (ts.map V.ref)) = HA at s2 hl2
  have s12 := s1.trans s2
  try dsimp only
  refine q_asgX ⟨_, rfl, _, rfl, fun x dx nx ndx ndc => ?_⟩
  have sx : Same HA (upd (upd HA dx (.own x)) x (.ins (He.ga K "History") dx [])) := fun b o e => by
    rw [upd_ne (ne_of_none e nx), upd_ne (ne_of_none e ndx)]
    exact e
  refine ⟨x, dx, l1, l2, as1, ts, cs, chs, false, rfl, upd_same, sx _ _ (s2 _ _ hl1), (hc1.keep s2).keep sx, sqL_of (sx _ _ hl2), (q5.keep s12).keep sx, okc, by rw [numb_placed o.pl]; exact o, fun HB hN kp => ⟨rfl, ?_⟩⟩
  rw [numb_placed o.pl] at hN
  have sB : Same HA HB := fun b o e => kp b o (ne_of_none e nx) (sx _ _ e)
  have sHB := s12.trans sB
  -- the first list is spoilt
  try dsimp only
  refine ⟨_, rfl, .inl ⟨rfl, _, sqL_of (sB _ _ (s2 _ _ hl1))⟩, l1, _, _, rfl, rfl, sB _ _ (s2 _ _ hl1), by rw [List.length_map, hc1.len]; omega, ?_⟩
  have hN1 := hN.mut (o' := .lst (as1.map V.ref ++ [.non])) (sx _ _ (s2 _ _ hl1)) (sB _ _ (s2 _ _ hl1))
  have sC : Same H (upd HB l1 (.lst (as1.map V.ref ++ [.non]))) := same_mut sHB n1
  have hl2C : upd HB l1 (.lst (as1.map V.ref ++ [.non])) l2 = some (.lst (ts.map V.ref)) := by rw [upd_ne ne12.symm]; exact sB _ _ hl2
  generalize upd HB l1 (.lst (as1.map V.ref ++ [.non])) = HC at hN1 sC hl2C
  -- and the other
  try dsimp only
  refine ⟨_, rfl, .inl ⟨rfl, _, sqL_of hl2C⟩, by show 3 ≤ sizeLine; decide, fun t nt => ?_⟩
  have sT : Same HC (upd HC t (.tup [.str "fill", .str "a", .int 0])) := same_new nt
  have hl2T := sT _ _ hl2C
  have hN1T : HistNN K (upd (upd HA dx (.own x)) x (.ins (He.ga K "History") dx [])) (upd HC t (.tup [.str "fill", .str "a", .int 0])) x cs chs := by
    obtain ⟨dx, e, c, b, d, es, ts, ⟨h1, h2, h3, h4, h5, h6, h7⟩, r⟩ := hN1
    exact ⟨dx, e, c, b, d, es, ts, ⟨sT _ _ h1, sT _ _ h2, h3.keep sT, sT _ _ h4, h5.keep sT, sT _ _ h6, sT _ _ h7⟩, r⟩
  have sCT := sC.trans sT
  generalize upd HC t (.tup [.str "fill", .str "a", .int 0]) = HT at sT hl2T hN1T sCT
  refine ⟨l2, _, _, rfl, rfl, hl2T, by rw [List.length_map, q5.len]; omega, ?_⟩
  have hN2 := (hN1T.mut (o' := .lst (ts.map V.ref ++ [.ref t])) (sx _ _ hl2) hl2T).n.at_
  have sD : Same H (upd HT l2 (.lst (ts.map V.ref ++ [.ref t]))) := same_mut sCT n2'
  generalize upd HT l2 (.lst (ts.map V.ref ++ [.ref t])) = HD at hN2 sD
  clear hN hN1 hN1T sB sHB sC hl2C sCT hl2T sT nt kp sx
  try dsimp only
  obtain ⟨dy, gs, hi1⟩ := histNo hN2
  obtain ⟨dz, g2, hi2⟩ := histNo (hH.keep sD)
  have fa := fits_all o.f
  have va := ok_vals o.g
  refine ⟨_, rfl, _, rfl, x, dy, gs, h2, dz, g2, rfl, rfl, hi1, hi2, x, h2, cs, cs, chs, chs, rfl, hN2, hH.keep sD, va, va, fa, fa, fun HE sE => ⟨_, rfl, ?_⟩⟩
  rw [histEq_self o.f]
  refine ⟨_, rfl, iteT ?_⟩
  obtain ⟨dx3, fs3, hi3, no3⟩ := histMx "changes_told" (by decide +kernel) (hN2.keep sE)
  obtain ⟨_, _, hi4, no4⟩ := histMx "first_columns" (by decide +kernel) (hN2.keep sE)
  refine ⟨_, rfl, x, dx3, fs3, rfl, hi3, no3, x, cs, chs, rfl, hN2.keep sE, fun l3 ts3 HF n3 s3 hl3 hc3 => ?_⟩
  have sHF := (sD.trans sE).trans s3
  refine ⟨_, rfl, h, .ref ch, rfl, (lat_get (sHF _ _ q1)).2.1, chsPD chs, chsPD chs, dp_chs (sqL_of hl3) hc3 fa, dp_chs (sqL_of (sHF _ _ q4)) (q5.keep sHF) fa, chs_shaped fa, chs_shaped fa, _, rfl, ?_⟩
  rw [show PyData.eqv (chsPD chs) (chsPD chs) = true from chs_eqv fa]
  refine iteT ?_
  refine ⟨_, rfl, x, _, _, rfl, s3 _ _ hi4, no4, x, cs, chs, rfl, (hN2.keep sE).keep s3, fun l4 as4 HG n4 s4 hl4 hc4 => ?_⟩
  have sHG := sHF.trans s4
  obtain ⟨shb, esb, eb, asb, b1, b2, b3, b4, b5, b6⟩ := (hL.keep sHG).sheet (m := 0) (Nat.zero_le _)
  have b6 : LCols K HG asb cs := b6
  refine ⟨_, rfl, h, .ref shb, rfl, b1, shb, _, 0, _, rfl, rfl, sqL_of b2, ix_int (by decide) (by rw [List.getElem?_map]; show esb[0]?.map V.ref = _; rw [b4]; rfl), eb, asb, cs, rfl, b5, b6, by rw [b6.len]; omega, okc, fun l5 as5 HI n5 s5 hl5 hc5 => ?_⟩
  refine ⟨colsEqB cs cs, dl_cols (s5 _ _ hl4) hl5 (hc4.keep s5) hc5 va va, fun HJ sJ => ?_⟩
  rw [colsEqB_self]
  exact k HJ ((sHG.trans s5).trans sJ)
-- needs: +CUTV
/-! xs[:-1] -/
theorem cutV_init {xs : List V} {n : Nat} (h : xs.length = n + 1) : cutV xs none (some (-1)) = xs.take n := by
  unfold cutV
  have e1 : HT.sIx xs.length 0 none = 0 := rfl
  have e2 : HT.sIx xs.length xs.length (some (-1)) = n := by
    unfold HT.sIx
    rw [h]
    simp
    try omega
  rw [e1, e2]
  rfl

-- needs: History.__init__ History.__eq__ hindrance +LHP +CHD +COLB
/-! a history with another last change, a fill of the first column with 0 -/
theorem at_m2 {as : List Addr} {n : Nat} {e : Addr} (hl : as.length = n + 2) (h : as[n]? = some e) : atI (as.map V.ref) (-2) = some (.ref e) := by
  unfold atI ixN
  rw [if_neg (by omega), if_pos (by rw [List.length_map]; omega), List.length_map, show ((-2 : Int) + (as.length : Nat)).toNat = n by omega]
  show (as.map V.ref)[n]? = _
  rw [List.getElem?_map, h]
  rfl
theorem near_ok {cs : List Col} {ini : List Ch} {last : Ch} {c0 : Col} {rest : List Col} (o : HistOk cs (ini ++ [last])) (ec : (atC cs ini).1 = c0 :: rest) : (Ch.fill c0.name 0).fits = true ∧ HistOk cs (ini ++ [.fill c0.name 0]) := by
  have gI : Good (atC cs ini).1 (atC cs ini).2 := by
    have := o.f.good o.g ini.length (by rw [List.length_append]; omega)
    rw [List.take_left] at this
    exact this
  have hc0 : c0 ∈ (atC cs ini).1 := by rw [ec]; exact List.mem_cons_self
  have ok0 := (gI.ok c0 hc0).1
  have ft : (Ch.fill c0.name 0).fits = true := by
    show (isNm (.str c0.name) && decide ((0 : Int) ≤ 0)) = true
    rw [ok0.nm]
    rfl
  refine ⟨ft, o.pl, o.g, fun i ch hi => ?_, by have := o.few; rw [List.length_append] at this ⊢; exact this⟩
  rcases Nat.lt_or_ge i ini.length with q | q
  · rw [List.getElem?_append_left q] at hi
    have h2 := o.f i ch (by rw [List.getElem?_append_left q]; exact hi)
    rw [List.take_append_of_le_length (by omega)] at h2 ⊢
    exact h2
  · have hil := (List.getElem?_eq_some_iff.mp hi).1
    rw [List.length_append] at hil
    have e1 : [Ch.fill c0.name 0].length = 1 := rfl
    have e2 : i = ini.length := by omega
    subst e2
    rw [List.getElem?_append_right (Nat.le_refl _), Nat.sub_self] at hi
    obtain rfl := Option.some.inj hi
    refine ⟨ft, ?_⟩
    rw [List.take_left]
    have hf := find_uniq gI.names hc0 rfl
    have top : 1 ≤ c0.top := of_decide_eq_true (Bool.and_eq_true_iff.mp ok0.gr).1
    have hin : isIn c0.top (.int 0) = true := by
      show (decide ((0 : Int) ≤ 0) && decide ((0 : Int) ≤ c0.top)) = true
      rw [decide_eq_true (by omega : (0 : Int) ≤ c0.top)]
      rfl
    show (match (atC cs ini).1.find? (isN c0.name) with
      | none => V.str "unknown"
      | some e => if isIn e.top (.int 0) = true then .non else .str "above") = .non
    rw [hf]
    exact if_pos hin
theorem ch_shaped {ch : Ch} (f : ch.fits = true) : SeqAt.shaped (chPD ch) = true := by
  obtain ⟨h1, h2⟩ := lays_ok (toV_ok f)
  unfold SeqAt.shaped
  rw [Bool.and_eq_true]
  refine ⟨h1, decide_eq_true ?_⟩
  show PyData.depthAll (ch.toV.map dtV) + 1 ≤ 64
  omega
theorem eqvAll_tail : ∀ {xs : List PyData} {a b : PyData}, PyData.eqvAll xs xs = true → PyData.eqvAll (xs ++ [a]) (xs ++ [b]) = PyData.eqv a b
  | [], a, b, _ => by
    show (PyData.eqv a b && true) = _
    rw [Bool.and_true]
  | x :: xs, a, b, h => by
    have h : (PyData.eqv x x && PyData.eqvAll xs xs) = true := h
    rw [Bool.and_eq_true] at h
    show (PyData.eqv x x && PyData.eqvAll (xs ++ [a]) (xs ++ [b])) = _
    rw [h.1, Bool.true_and]
    exact eqvAll_tail h.2
theorem near_eq {cs : List Col} {ini : List Ch} {last f : Ch} (fa : ∀ ch ∈ ini ++ [last], ch.fits = true) : histEq cs (ini ++ [f]) cs (ini ++ [last]) = PyData.eqv (chPD f) (chPD last) := by
  unfold histEq
  rw [colsEqB_self, Bool.true_and]
  show PyData.eqvAll ((ini ++ [f]).map chPD) ((ini ++ [last]).map chPD) = _
  rw [List.map_append, List.map_append]
  exact eqvAll_tail (chs_eqv fun ch hc => fa ch (List.mem_append_left _ hc))

/-! greatest values bounded: of the first columns and of the changes, so of all columns -/
def Ch.upTo (top : Int) : Ch → Prop
  | .add _ g _ => g ≤ top
  | .great _ g _ => g ≤ top
  | _ => True
def UpTo (top : Int) (cs : List Col) (chs : List Ch) : Prop := (∀ c ∈ cs, c.top ≤ top) ∧ ∀ ch ∈ chs, ch.upTo top
theorem UpTo.mono {a b : Int} {cs : List Col} {chs : List Ch} (h : a ≤ b) (u : UpTo a cs chs) : UpTo b cs chs := ⟨fun c hc => Int.le_trans (u.1 c hc) h, fun ch hc => by
  have := u.2 ch hc
  cases ch with
  | add _ g _ => exact Int.le_trans this h
  | great _ g _ => exact Int.le_trans this h
  | _ => exact True.intro⟩

/-! a history up to one of its editions -/
theorem Chs.take {K : PySem.W.Frag} {H : Hp} : ∀ {as : List Addr} {cs : List Ch} (m : Nat), Chs K H as cs → Chs K H (as.take m) (cs.take m)
  | _, _, 0, _ => .nil
  | _, _, _ + 1, .nil => .nil
  | _, _, m + 1, .cons q t => .cons q (t.take m)
theorem HistOk.take {cs : List Col} {chs : List Ch} (o : HistOk cs chs) {m : Nat} (h : m ≤ chs.length) : HistOk cs (chs.take m) := by
  refine ⟨o.pl, o.g, fun i ch hi => ?_, ?_⟩
  · rw [List.getElem?_take] at hi
    split at hi
    · rename_i q
      have := o.f i ch hi
      rw [List.take_take, Nat.min_eq_left (by omega)]
      exact this
    · cases hi
  · rw [List.length_take]
    have := o.few
    omega
theorem UpTo.take {top : Int} {cs : List Col} {chs : List Ch} (u : UpTo top cs chs) (m : Nat) : UpTo top cs (chs.take m) := ⟨u.1, fun ch hc => u.2 ch (List.mem_of_mem_take hc)⟩

/-! the columns of the second set of laws: dicts -/
def colB (c : Col) : List (Key × V) := [(Sum.inr "name", .str c.name), (Sum.inr "g", .int c.top), (Sum.inr "d", c.dflt), (Sum.inr "n", .int c.num)]
theorem colB_vals (c : Col) : valV (colB c) (Sum.inr "name") = some (.str c.name) ∧ valV (colB c) (Sum.inr "g") = some (.int c.top) ∧ valV (colB c) (Sum.inr "d") = some c.dflt ∧ valV (colB c) (Sum.inr "n") = some (.int c.num) := by
  have h1 : ¬ ((Sum.inr "name" : Key) = (Sum.inr "g" : Key)) := by decide +kernel
  have h2 : ¬ ((Sum.inr "name" : Key) = (Sum.inr "d" : Key)) := by decide +kernel
  have h3 : ¬ ((Sum.inr "name" : Key) = (Sum.inr "n" : Key)) := by decide +kernel
  have h4 : ¬ ((Sum.inr "g" : Key) = (Sum.inr "d" : Key)) := by decide +kernel
  have h5 : ¬ ((Sum.inr "g" : Key) = (Sum.inr "n" : Key)) := by decide +kernel
  have h6 : ¬ ((Sum.inr "d" : Key) = (Sum.inr "n" : Key)) := by decide +kernel
  unfold colB
  refine ⟨valV_pos rfl, ?_, ?_, ?_⟩
  · simp [valV, h1]
  · simp [valV, h2, h4]
  · simp [valV, h3, h5, h6]
section
variable {H : Hp} {a : Addr} {c : Col}
theorem bc_name (h : H a = some (.dK (colB c))) : DGet H a (.str "name") (some (.str c.name)) := by
  rw [← (colB_vals c).1]; exact DGet.k (k := Sum.inr "name") h
theorem bc_g (h : H a = some (.dK (colB c))) : DGet H a (.str "g") (some (.int c.top)) := by
  rw [← (colB_vals c).2.1]; exact DGet.k (k := Sum.inr "g") h
theorem bc_d (h : H a = some (.dK (colB c))) : DGet H a (.str "d") (some c.dflt) := by
  rw [← (colB_vals c).2.2.1]; exact DGet.k (k := Sum.inr "d") h
theorem bc_n (h : H a = some (.dK (colB c))) : DGet H a (.str "n") (some (.int c.num)) := by
  rw [← (colB_vals c).2.2.2]; exact DGet.k (k := Sum.inr "n") h
end
theorem colB_put (c : Col) : (∀ s : Str, putK (colB c) (Sum.inr "name") (.str s) = colB { c with name := s }) ∧ (∀ i : Int, putK (colB c) (Sum.inr "g") (.int i) = colB { c with top := i }) ∧ (∀ v : V, putK (colB c) (Sum.inr "d") v = colB { c with dflt := v }) := by
  have h1 : ¬ ((Sum.inr "name" : Key) = (Sum.inr "g" : Key)) := by decide +kernel
  have h2 : ¬ ((Sum.inr "name" : Key) = (Sum.inr "d" : Key)) := by decide +kernel
  have h3 : ¬ ((Sum.inr "name" : Key) = (Sum.inr "n" : Key)) := by decide +kernel
  have h4 : ¬ ((Sum.inr "g" : Key) = (Sum.inr "d" : Key)) := by decide +kernel
  have h5 : ¬ ((Sum.inr "g" : Key) = (Sum.inr "n" : Key)) := by decide +kernel
  have h6 : ¬ ((Sum.inr "d" : Key) = (Sum.inr "n" : Key)) := by decide +kernel
  have k1 : ¬ ((Sum.inr "g" : Key) = (Sum.inr "name" : Key)) := fun e => h1 e.symm
  have k2 : ¬ ((Sum.inr "d" : Key) = (Sum.inr "name" : Key)) := fun e => h2 e.symm
  have k3 : ¬ ((Sum.inr "n" : Key) = (Sum.inr "name" : Key)) := fun e => h3 e.symm
  have k4 : ¬ ((Sum.inr "d" : Key) = (Sum.inr "g" : Key)) := fun e => h4 e.symm
  have k5 : ¬ ((Sum.inr "n" : Key) = (Sum.inr "g" : Key)) := fun e => h5 e.symm
  have k6 : ¬ ((Sum.inr "n" : Key) = (Sum.inr "d" : Key)) := fun e => h6 e.symm
  refine ⟨fun s => ?_, fun i => ?_, fun v => ?_⟩
  · simp [colB, putK, k1, k2, k3]
  · simp [colB, putK, h1, k4, k5]
  · simp [colB, putK, h2, h4, k6]
theorem colB_merge {n : Str} {g k : Int} {d : V} : mergeK [] [(Sum.inr "name", .str n), (Sum.inr "g", .int g), (Sum.inr "d", d), (Sum.inr "n", .int k)] = colB ⟨n, g, d, k⟩ := by
  have h1 : ¬ ((Sum.inr "name" : Key) = (Sum.inr "g" : Key)) := by decide +kernel
  have h2 : ¬ ((Sum.inr "name" : Key) = (Sum.inr "d" : Key)) := by decide +kernel
  have h3 : ¬ ((Sum.inr "name" : Key) = (Sum.inr "n" : Key)) := by decide +kernel
  have h4 : ¬ ((Sum.inr "g" : Key) = (Sum.inr "d" : Key)) := by decide +kernel
  have h5 : ¬ ((Sum.inr "g" : Key) = (Sum.inr "n" : Key)) := by decide +kernel
  have h6 : ¬ ((Sum.inr "d" : Key) = (Sum.inr "n" : Key)) := by decide +kernel
  simp [mergeK, putK, colB, h1, h2, h3, h4, h5, h6]
inductive BCols (H : Hp) : List Addr → List Col → Prop
  | nil : BCols H [] []
  | cons {a : Addr} {as : List Addr} {c : Col} {cs : List Col} : H a = some (.dK (colB c)) → BCols H as cs → BCols H (a :: as) (c :: cs)
theorem BCols.keepN {H H' : Hp} (s : KeepNL H H') : ∀ {as : List Addr} {cs : List Col}, BCols H as cs → BCols H' as cs
  | _, _, .nil => .nil
  | _, _, .cons h t => .cons (s _ _ (fun _ z => by cases z) h) (t.keepN s)
theorem BCols.keep {H H' : Hp} (s : Same H H') {as : List Addr} {cs : List Col} (h : BCols H as cs) : BCols H' as cs := h.keepN (KeepNL.of s)
theorem BCols.len {H : Hp} : ∀ {as : List Addr} {cs : List Col}, BCols H as cs → as.length = cs.length
  | _, _, .nil => rfl
  | _, _, .cons _ t => congrArg Nat.succ t.len
theorem BCols.at_ {H : Hp} : ∀ {as : List Addr} {cs : List Col} {i : Nat} {a : Addr}, BCols H as cs → as[i]? = some a → ∃ c, cs[i]? = some c ∧ H a = some (.dK (colB c))
  | _, _, _, _, .nil, e => by simp at e
  | _, _, 0, _, .cons h t, e => by
    simp at e
    subst e
    exact ⟨_, rfl, h⟩
  | _, _, i + 1, a, .cons h t, e => by
    obtain ⟨c, h1, h2⟩ := BCols.at_ (i := i) (a := a) t (by simpa using e)
    exact ⟨c, by simpa using h1, h2⟩
theorem BCols.app {H : Hp} : ∀ {as bs : List Addr} {cs ds : List Col}, BCols H as cs → BCols H bs ds → BCols H (as ++ bs) (cs ++ ds)
  | _, _, _, _, .nil, h => h
  | _, _, _, _, .cons h t, q => .cons h (t.app q)
theorem BCols.of_vs {H : Hp} : ∀ {ys : List V} {cs : List Col}, ys.length = cs.length → (∀ (i : Nat) (y : V), ys[i]? = some y → ∃ a c, y = .ref a ∧ cs[i]? = some c ∧ H a = some (.dK (colB c))) → ∃ as, ys = as.map V.ref ∧ BCols H as cs
  | [], [], _, _ => ⟨[], rfl, .nil⟩
  | [], _ :: _, h, _ => by cases h
  | _ :: _, [], h, _ => by cases h
  | y :: ys, c :: cs, h, f => by
    obtain ⟨a, c', rfl, q, ha⟩ := f 0 y rfl
    obtain rfl := Option.some.inj q
    obtain ⟨as, rfl, hh⟩ := BCols.of_vs (ys := ys) (cs := cs) (Nat.succ.inj h) fun i y' h1 => f (i + 1) y' (by simpa using h1)
    exact ⟨a :: as, rfl, .cons ha hh⟩

/-! the history of the second set of laws: a dict that is made anew at each change -/
/-- the words may be left out -/
def wordsK : Option Addr → List (Key × V)
  | some wd => [(Sum.inr "words", .ref wd)]
  | none => []
def bhDict (sh ch : Addr) (n : Int) (wd : Option Addr) : List (Key × V) := (Sum.inr "sheets", .ref sh) :: (Sum.inr "changes", .ref ch) :: (Sum.inr "given", .int n) :: wordsK wd
theorem bh_vals (sh ch : Addr) (n : Int) (wd : Option Addr) : valV (bhDict sh ch n wd) (Sum.inr "sheets") = some (.ref sh) ∧ valV (bhDict sh ch n wd) (Sum.inr "changes") = some (.ref ch) ∧ valV (bhDict sh ch n wd) (Sum.inr "given") = some (.int n) := by
  have h1 : ¬ ((Sum.inr "sheets" : Key) = (Sum.inr "changes" : Key)) := by decide +kernel
  have h2 : ¬ ((Sum.inr "sheets" : Key) = (Sum.inr "given" : Key)) := by decide +kernel
  have h4 : ¬ ((Sum.inr "changes" : Key) = (Sum.inr "given" : Key)) := by decide +kernel
  unfold bhDict
  refine ⟨valV_pos rfl, ?_, ?_⟩
  · simp [valV, h1]
  · simp [valV, h2, h4]
theorem bh_word (sh ch : Addr) (n : Int) (wd : Addr) : valV (bhDict sh ch n (some wd)) (Sum.inr "words") = some (.ref wd) := by
  have h3 : ¬ ((Sum.inr "sheets" : Key) = (Sum.inr "words" : Key)) := by decide +kernel
  have h5 : ¬ ((Sum.inr "changes" : Key) = (Sum.inr "words" : Key)) := by decide +kernel
  have h6 : ¬ ((Sum.inr "given" : Key) = (Sum.inr "words" : Key)) := by decide +kernel
  unfold bhDict wordsK
  simp [valV, h3, h5, h6]
/-- it is no column's dict -/
theorem bh_noname (sh ch : Addr) (n : Int) (wd : Option Addr) : valV (bhDict sh ch n wd) (Sum.inr "name") = none := by
  have z1 : ¬ ((Sum.inr "sheets" : Key) = (Sum.inr "name" : Key)) := by decide +kernel
  have z2 : ¬ ((Sum.inr "changes" : Key) = (Sum.inr "name" : Key)) := by decide +kernel
  have z3 : ¬ ((Sum.inr "given" : Key) = (Sum.inr "name" : Key)) := by decide +kernel
  have z4 : ¬ ((Sum.inr "words" : Key) = (Sum.inr "name" : Key)) := by decide +kernel
  cases wd <;> simp [bhDict, wordsK, valV, z1, z2, z3, z4]
theorem bh_few (sh ch : Addr) (n : Int) (wd : Option Addr) : (bhDict sh ch n wd).length < sizeLine := by
  have e : sizeLine = 16777216 := by decide
  cases wd <;> (rw [e]; simp [bhDict, wordsK])
section
variable {H : Hp} {h sh ch : Addr} {wd : Option Addr} {n : Int}
theorem bh_sheets (q : H h = some (.dK (bhDict sh ch n wd))) : DGet H h (.str "sheets") (some (.ref sh)) := by
  rw [← (bh_vals sh ch n wd).1]; exact DGet.k (k := Sum.inr "sheets") q
theorem bh_changes (q : H h = some (.dK (bhDict sh ch n wd))) : DGet H h (.str "changes") (some (.ref ch)) := by
  rw [← (bh_vals sh ch n wd).2.1]; exact DGet.k (k := Sum.inr "changes") q
theorem bh_given (q : H h = some (.dK (bhDict sh ch n wd))) : DGet H h (.str "given") (some (.int n)) := by
  rw [← (bh_vals sh ch n wd).2.2]; exact DGet.k (k := Sum.inr "given") q
end
theorem bh_put (sh ch : Addr) (n : Int) (wd : Option Addr) : (∀ s : Addr, putK (bhDict sh ch n wd) (Sum.inr "sheets") (.ref s) = bhDict s ch n wd) ∧ (∀ s : Addr, putK (bhDict sh ch n wd) (Sum.inr "changes") (.ref s) = bhDict sh s n wd) ∧ (∀ i : Int, putK (bhDict sh ch n wd) (Sum.inr "given") (.int i) = bhDict sh ch i wd) := by
  have h1 : ¬ ((Sum.inr "sheets" : Key) = (Sum.inr "changes" : Key)) := by decide +kernel
  have h2 : ¬ ((Sum.inr "sheets" : Key) = (Sum.inr "given" : Key)) := by decide +kernel
  have h4 : ¬ ((Sum.inr "changes" : Key) = (Sum.inr "given" : Key)) := by decide +kernel
  have k1 : ¬ ((Sum.inr "changes" : Key) = (Sum.inr "sheets" : Key)) := fun e => h1 e.symm
  have k2 : ¬ ((Sum.inr "given" : Key) = (Sum.inr "sheets" : Key)) := fun e => h2 e.symm
  have k3 : ¬ ((Sum.inr "words" : Key) = (Sum.inr "sheets" : Key)) := by decide +kernel
  have k4 : ¬ ((Sum.inr "given" : Key) = (Sum.inr "changes" : Key)) := fun e => h4 e.symm
  have k5 : ¬ ((Sum.inr "words" : Key) = (Sum.inr "changes" : Key)) := by decide +kernel
  have k6 : ¬ ((Sum.inr "words" : Key) = (Sum.inr "given" : Key)) := by decide +kernel
  refine ⟨fun s => ?_, fun s => ?_, fun i => ?_⟩
  · cases wd <;> simp [bhDict, wordsK, putK, k1, k2, k3]
  · cases wd <;> simp [bhDict, wordsK, putK, h1, k4, k5]
  · cases wd <;> simp [bhDict, wordsK, putK, h2, h4, k6]
theorem bh_merge {sh ch : Addr} {n : Int} {wd : Addr} : mergeK [] [(Sum.inr "sheets", .ref sh), (Sum.inr "changes", .ref ch), (Sum.inr "given", .int n), (Sum.inr "words", .ref wd)] = bhDict sh ch n (some wd) := by
  have h1 : ¬ ((Sum.inr "sheets" : Key) = (Sum.inr "changes" : Key)) := by decide +kernel
  have h2 : ¬ ((Sum.inr "sheets" : Key) = (Sum.inr "given" : Key)) := by decide +kernel
  have h3 : ¬ ((Sum.inr "sheets" : Key) = (Sum.inr "words" : Key)) := by decide +kernel
  have h4 : ¬ ((Sum.inr "changes" : Key) = (Sum.inr "given" : Key)) := by decide +kernel
  have h5 : ¬ ((Sum.inr "changes" : Key) = (Sum.inr "words" : Key)) := by decide +kernel
  have h6 : ¬ ((Sum.inr "given" : Key) = (Sum.inr "words" : Key)) := by decide +kernel
  simp [mergeK, putK, bhDict, wordsK, h1, h2, h3, h4, h5, h6]
/-- the sheets, by their places -/
def BSh (H : Hp) (es : List Addr) (eds : List (List Col)) : Prop := es.length = eds.length ∧ ∀ (i : Nat) (e : Addr) (cs : List Col), es[i]? = some e → eds[i]? = some cs → ∃ as : List Addr, H e = some (.lst (as.map V.ref)) ∧ BCols H as cs
/-- the words, where there are any -/
def WdAt (H : Hp) : Option Addr → List Str → Prop
  | some wd, ws => H wd = some (.lst (ws.map V.str))
  | none, ws => ws = []
theorem WdAt.keep {H H' : Hp} (s : Same H H') : ∀ {wd : Option Addr} {ws : List Str}, WdAt H wd ws → WdAt H' wd ws
  | some _, _, h => s _ _ h
  | none, _, h => h
theorem WdAt.there {H : Hp} : ∀ {wd : Option Addr} {ws : List Str}, WdAt H wd ws → ws ≠ [] → ∃ w, wd = some w ∧ H w = some (.lst (ws.map V.str))
  | some w, _, h, _ => ⟨w, rfl, h⟩
  | none, _, h, n => absurd h n
theorem bh_words {H : Hp} {h sh ch wd : Addr} {n : Int} (q : H h = some (.dK (bhDict sh ch n (some wd)))) : DGet H h (.str "words") (some (.ref wd)) := by
  rw [← bh_word sh ch n wd]; exact DGet.k (k := Sum.inr "words") q
def BhAt (K : PySem.W.Frag) (H : Hp) (h : Addr) (cs : List Col) (chs : List Ch) (ws : List Str) : Prop := ∃ (sh ch : Addr) (wd : Option Addr) (es ts : List Addr), H h = some (.dK (bhDict sh ch (atC cs chs).2 wd)) ∧ H sh = some (.lst (es.map V.ref)) ∧ BSh H es (edsTo cs chs (chs.length + 1)) ∧ H ch = some (.lst (ts.map V.ref)) ∧ Chs K H ts chs ∧ WdAt H wd ws
theorem BSh.keep {H H' : Hp} {es : List Addr} {eds : List (List Col)} (s : Same H H') (q : BSh H es eds) : BSh H' es eds := ⟨q.1, fun i e cs h1 h2 => by
  obtain ⟨as, h3, h4⟩ := q.2 i e cs h1 h2
  exact ⟨as, s _ _ h3, h4.keep s⟩⟩
theorem BhAt.keep {K : PySem.W.Frag} {H H' : Hp} {h : Addr} {cs : List Col} {chs : List Ch} {ws : List Str} (s : Same H H') (q : BhAt K H h cs chs ws) : BhAt K H' h cs chs ws := by
  obtain ⟨sh, ch, wd, es, ts, h1, h2, h3, h4, h5, h6⟩ := q
  exact ⟨sh, ch, wd, es, ts, s _ _ h1, s _ _ h2, h3.keep s, s _ _ h4, h5.keep s, h6.keep s⟩
theorem strs_no {ws : List Str} {a b : Int} : ¬ ws.map V.str = [.int a, .int b] := fun e => by
  cases ws with
  | nil => cases e
  | cons x xs => cases (List.cons.inj e).1
theorem BhAt.but {K : PySem.W.Frag} {H H' : Hp} {h p : Addr} {cs : List Col} {chs : List Ch} {ws : List Str} {y0 y1 : Int} (q : BhAt K H h cs chs ws) (hp : H p = some (.lst [.int y0, .int y1])) (bt : But p H H') : BhAt K H' h cs chs ws := by
  obtain ⟨sh, ch, wd, es, ts, h1, h2, h3, h4, h5, h6⟩ := q
  have kn := KeepNL.ofBut hp bt
  have no : ∀ {a : Addr} {as : List Addr}, H a = some (.lst (as.map V.ref)) → H' a = some (.lst (as.map V.ref)) := fun {a as} e => bt _ _ (fun z => by
    rw [z, hp] at e
    exact refs_no (HO.lst.inj (Option.some.inj e)).symm) e
  refine ⟨sh, ch, wd, es, ts, kn _ _ (fun _ z => by cases z) h1, no h2, ⟨h3.1, fun i e c k1 k2 => ?_⟩, no h4, h5.keepNL kn, ?_⟩
  · obtain ⟨as, k3, k4⟩ := h3.2 i e c k1 k2
    exact ⟨as, no k3, k4.keepN kn⟩
  · cases wd with
    | none => exact h6
    | some wd =>
      have h6 : H wd = some (.lst (ws.map V.str)) := h6
      refine bt _ _ (fun z => ?_) h6
      rw [z, hp] at h6
      exact strs_no (HO.lst.inj (Option.some.inj h6)).symm
/-- a sheet, looked up -/
theorem BhAt.sheet {K : PySem.W.Frag} {H : Hp} {h : Addr} {cs : List Col} {chs : List Ch} {ws : List Str} (q : BhAt K H h cs chs ws) {m : Nat} (hm : m ≤ chs.length) : ∃ (sh : Addr) (es : List Addr) (e : Addr) (as : List Addr), DGet H h (.str "sheets") (some (.ref sh)) ∧ H sh = some (.lst (es.map V.ref)) ∧ es.length = chs.length + 1 ∧
    es[m]? = some e ∧ H e = some (.lst (as.map V.ref)) ∧ BCols H as (atC cs (chs.take m)).1 := by
  obtain ⟨sh, ch, wd, es, ts, h1, h2, h3, h4, h5, h6⟩ := q
  have hl : es.length = chs.length + 1 := by rw [h3.1, edsTo_len]
  have hem : es[m]? = some (es[m]'(by omega)) := List.getElem?_eq_getElem (by omega)
  obtain ⟨as, hea, hec⟩ := h3.2 m _ _ hem (edsTo_get (by omega))
  exact ⟨sh, es, _, as, bh_sheets h1, h2, hl, hem, hea, hec⟩
/-- the last of a list, by -1 -/
theorem at_last {as : List Addr} {n : Nat} {e : Addr} (hl : as.length = n + 1) (h : as[n]? = some e) : atI (as.map V.ref) (-1) = some (.ref e) := by
  unfold atI ixN
  rw [if_neg (by omega), if_pos (by rw [List.length_map]; omega), List.length_map, show ((-1 : Int) + (as.length : Nat)).toNat = n by omega]
  show (as.map V.ref)[n]? = _
  rw [List.getElem?_map, h]
  rfl
/-- a sheet, and the history's own dict -/
theorem BhAt.sheetR {K : PySem.W.Frag} {H : Hp} {h : Addr} {cs : List Col} {chs : List Ch} {ws : List Str} (q : BhAt K H h cs chs ws) {m : Nat} (hm : m ≤ chs.length) : ∃ (sh ca : Addr) (wd : Option Addr) (n : Int) (es : List Addr) (e : Addr) (as : List Addr), H h = some (.dK (bhDict sh ca n wd)) ∧ H sh = some (.lst (es.map V.ref)) ∧ es.length = chs.length + 1 ∧
    es[m]? = some e ∧ H e = some (.lst (as.map V.ref)) ∧ BCols H as (atC cs (chs.take m)).1 := by
  obtain ⟨sh, ch, wd, es, ts, h1, h2, h3, h4, h5, h6⟩ := q
  have hl : es.length = chs.length + 1 := by rw [h3.1, edsTo_len]
  have hem : es[m]? = some (es[m]'(by omega)) := List.getElem?_eq_getElem (by omega)
  obtain ⟨as, hea, hec⟩ := h3.2 m _ _ hem (edsTo_get (by omega))
  exact ⟨sh, ch, wd, _, es, _, as, h1, h2, hl, hem, hea, hec⟩
/-- a change, looked up -/
theorem BhAt.change {K : PySem.W.Frag} {H : Hp} {h : Addr} {cs : List Col} {chs : List Ch} {ws : List Str} (q : BhAt K H h cs chs ws) {m : Nat} {ch : Ch} (hm : chs[m]? = some ch) : ∃ (ca : Addr) (ts : List Addr) (t : Addr), DGet H h (.str "changes") (some (.ref ca)) ∧ H ca = some (.lst (ts.map V.ref)) ∧ ts.length = chs.length ∧ ts[m]? = some t ∧ ChAt K H t ch := by
  obtain ⟨sh, ca, wd, es, ts, h1, h2, h3, h4, h5, h6⟩ := q
  have hl : ts.length = chs.length := h5.len
  have hml := (List.getElem?_eq_some_iff.mp hm).1
  have ht : ts[m]? = some (ts[m]'(by omega)) := List.getElem?_eq_getElem (by omega)
  obtain ⟨c, e1, e2⟩ := h5.at_ ht
  obtain rfl := Option.some.inj (hm.symm.trans e1)
  exact ⟨ca, ts, _, bh_changes h1, h4, hl, ht, e2⟩

/-! _law_near_right: the last change made another -/
def sp_near6 (K : PySem.W.Frag) : Sp := fun vs H Q _ => ∃ (h h2 : Addr) (cs : List Col) (chs : List Ch), vs = [.ref h, .ref h2] ∧ LhAt K H h cs chs ∧ HistAt K H h2 cs chs ∧ HistOk cs chs ∧ ∀ H', Same H H' → Q (.bl true) H'
theorem ok_near6 (T : Tx K mg) : Callee P w K mg base CX0 13 "_law_near_right" ["_law_h", "_law_history_here"] [] (sp_near6 K) := by
  have C1 := (ok_lcols (P := P) (w := w) (base := base) T).up (show 6 ≤ 12 by decide)
  obtain ⟨fdI, GI, FI⟩ := ok_Hist_init (P := P) (w := w) (base := base) T
  have bI : Binds K fdI ["self", "columns", "changes"] [] := by
    have h := FI.binds1 (ps := ["self", "columns", "changes"]) 3 1 (by intro z; cases z) rfl (fun TT kV doc pm an cdv ct us its h1 h2 => ?_)
    · obtain ⟨ds, v, b⟩ := h
      cases ds with
      | nil => exact b
      | cons _ _ => cases v
    · match us, h1, its, h2 with
      | [u0, u1, u2], _, [i0], _ => exact ⟨_, rfl, rfl⟩
  obtain ⟨fdQ, FQ, bQ⟩ := ok_Hist_eq (P := P) (w := w) (base := base) T
  refine mkCallee (fd__law_near_right T) (mg__law_near_right T) sc__law_near_right (fun _ _ _ _ _ _ us hl => match us, hl with | [_, _], _ => rfl) (fun vs H Q E h => ?_) (fun cdv A outer s H vs Q E hr h => ?_)
  · obtain ⟨h, h2, cs, chs, rfl, _⟩ := h
    rfl
  obtain ⟨h, h2, cs, chs, rfl, hL, hH, o, k⟩ := h
  have nd := sc__law_near_right.nd
  have hu := hu_of hr
  have hr3 : Room 3 _ := hr.mono (by decide)
  have hz : sizeLine = 16777216 := by decide
  refine ⟨_, (pss_cons (ps_if (pt_cmpR (op_eqD (hr64 hr)) (pe_dget hu (pv 0) pe_str (fun _ _ => rfl)) (pe_lst pa_nil) (nomark _)) (pss_one (ps_ret pe_bl)) pss_nil)
    (pss_cons (ps_set (i := 2) nd rfl (Or.inl rfl) (pe_tup (pa_cons pe_str (pa_cons (pe_ix ix_tup (pe_ix ix_list (pe_ix ix_list (pe_dget hu (pv 0) pe_str (fun _ _ => rfl)) (pe_un un_neg pe_int) (fun _ _ => rfl)) pe_int (fun _ _ => rfl)) pe_int (fun _ _ => rfl)) (pa_cons pe_int pa_nil)))))
    (pss_cons (ps_set (i := 3) nd rfl (Or.inl rfl) (pe_make (mk_History T) GI hr (by rfl) (mg_History T) bI .nil pass0 (pa_cons (pcall C1 hr (pa_cons (pe_ix ix_list (pe_dget hu (pv 0) pe_str (fun _ _ => rfl)) pe_int (fun _ _ => rfl)) pa_nil)) (pa_cons (pe_op op_cat (pe_slice sl_list (pe_dget hu (pv 0) pe_str (fun _ _ => rfl)) po_none (po_some (pe_un un_neg pe_int))) (pe_lst (pa_cons (pv 2) pa_nil))) pa_nil))))
    (pss_one (ps_ret (pe_cmpR op_eq (pe_cmpR (op_eqOwn FQ (me_History___eq__ T) hr3 bQ pass0) (pv 3) (pv 1) (nomark _)) (pe_cmpR (op_eqD (hr64 hr)) (pv 2) (pe_ix ix_list (pe_dget hu (pv 0) pe_str (fun _ _ => rfl)) (pe_un un_neg pe_int) (fun _ _ => rfl)) (nomark _)) (nomark _))))))), ?_⟩
  obtain ⟨sh, ch, es, ts, q1, q2, q3, q4, q5⟩ := id hL
  have few := o.few
  have fa := fits_all o.f
  have va := ok_vals o.g
  have six := o.g.six
  have okc : ∀ c ∈ cs, ColOk c := fun c hc => (o.g.ok c hc).1
  refine ⟨_, rfl, h, .ref ch, rfl, (lat_get q1).2.1, by decide, fun E0 nE0 => ?_⟩
  have s1 : Same H (upd H E0 (.lst [])) := same_new nE0
  refine ⟨chsPD chs, .list [], dp_chs (sqL_of (s1 _ _ q4)) (q5.keep s1) fa, .lst (sqL_of upd_same) .nil, chs_shaped fa, rfl, _, rfl, ?_⟩
  generalize upd H E0 (.lst []) = H1 at s1
  cases hch : chs.getLast? with
  | none =>
    obtain rfl := List.getLast?_eq_none_iff.mp hch
    exact iteT (k H1 s1)
  | some last =>
  obtain ⟨ini, rfl⟩ : ∃ ini, chs = ini ++ [last] := List.getLast?_eq_some_iff.mp hch
  have ne : PyData.eqv (chsPD (ini ++ [last])) (.list []) = false := by
    unfold chsPD
    rw [List.map_append]
    cases ini <;> rfl
  rw [ne]
  refine iteF (nxt ?_)
  try dsimp only
  have hL1 := hL.keep s1
  have lenC : (ini ++ [last]).length = ini.length + 1 := by rw [List.length_append]; rfl
  obtain ⟨shb, esb, eb, asb, w1, w2, w3, w4, w5, w6⟩ := hL1.sheet (m := ini.length) (by omega)
  rw [List.take_left] at w6
  have gI : Good (atC cs ini).1 (atC cs ini).2 := by
    have := o.f.good o.g ini.length (by omega)
    rw [List.take_left] at this
    exact this
  obtain ⟨c0, rest, ec0⟩ : ∃ c0 rest, (atC cs ini).1 = c0 :: rest := by
    cases q : (atC cs ini).1 with
    | nil =>
      have := gI.one
      rw [q] at this
      cases this
    | cons c0 rest => exact ⟨c0, rest, rfl⟩
  rw [ec0] at w6
  cases w6 with
  | @cons a0 asr _ _ hat0 w6 =>
  have hc0 : c0 ∈ (atC cs ini).1 := by rw [ec0]; exact List.mem_cons_self
  have ok0 := (gI.ok c0 hc0).1
  have am2 : atI (esb.map V.ref) (-2) = some (.ref eb) := at_m2 (n := ini.length) (by rw [w3, lenC]) w4
  refine q_asgX ⟨_, rfl, h, .ref shb, rfl, w1, _, rfl, shb, _, -2, .ref eb, rfl, rfl, sqL_of w2, am2, eb, _, 0, .ref a0, rfl, rfl, sqL_of w5, ix_int (by decide) rfl, a0, _, 0, _, rfl, rfl, sqT_of hat0, rfl, by show 3 ≤ sizeLine; decide, fun t nt => ?_⟩
  have s2 := same_new (o := .tup [.str "fill", .str c0.name, .int 0]) nt
  have ht2 : ChAt K (upd H1 t (.tup [.str "fill", .str c0.name, .int 0])) t (.fill c0.name 0) := sqT_of upd_same
  generalize upd H1 t (.tup [.str "fill", .str c0.name, .int 0]) = H2 at s2 ht2
  have s12 := s1.trans s2
  obtain ⟨fN, oN⟩ := near_ok (cs := cs) (ini := ini) (last := last) (c0 := c0) (rest := rest) o ec0
  obtain ⟨shc, esc, ec, asc, x1, x2, x3, x4, x5, x6⟩ := (hL.keep s12).sheet (m := 0) (Nat.zero_le _)
  have x6 : LCols K H2 asc cs := x6
  try dsimp only
  refine q_asgX ⟨_, rfl, h, .ref shc, rfl, x1, shc, _, 0, _, rfl, rfl, sqL_of x2, ix_int (by decide) (by rw [List.getElem?_map]; show esc[0]?.map V.ref = _; rw [x4]; rfl), ec, asc, cs, rfl, x5, x6, by rw [x6.len]; omega, okc, fun l1 as1 H3 n1 s3 hl1 hc1 => ?_⟩
  have s13 := s12.trans s3
  have tl : ts.length = ini.length + 1 := by rw [q5.len, lenC]
  refine ⟨_, rfl, h, .ref ch, rfl, (lat_get (s13 _ _ q1)).2.1, 1, rfl, -1, rfl, ch, _, rfl, sqL_of (s13 _ _ q4), fun p2 n2 => ⟨_, rfl, by show 1 ≤ sizeLine; decide, fun p3 n3 => ⟨p2, p3, _, _, rfl, rfl, same_new n3 _ _ upd_same, upd_same, ?_, fun r nr => ?_⟩⟩⟩
  · rw [cutV_init (n := ini.length) (by rw [List.length_map]; exact tl), List.length_take, List.length_map]
    show min ini.length ts.length + 1 ≤ sizeLine
    omega
  rw [cutV_init (n := ini.length) (by rw [List.length_map]; exact tl)] at n3 nr
  rw [cutV_init (n := ini.length) (by rw [List.length_map]; exact tl)]
  have eT : (ts.map V.ref).take ini.length ++ [.ref t] = (ts.take ini.length ++ [t]).map V.ref := by
    rw [List.map_append, List.map_take]
    rfl
  rw [eT]
  have s4 : Same H3 (upd (upd (upd H3 p2 (.lst ((ts.map V.ref).take ini.length))) p3 (.lst [.ref t])) r (.lst ((ts.take ini.length ++ [t]).map V.ref))) := ((same_new n2).trans (same_new n3)).trans (same_new nr)
  have hr4 : upd (upd (upd H3 p2 (.lst ((ts.map V.ref).take ini.length))) p3 (.lst [.ref t])) r (.lst ((ts.take ini.length ++ [t]).map V.ref)) r = some (.lst ((ts.take ini.length ++ [t]).map V.ref)) := upd_same
  generalize upd (upd (upd H3 p2 (.lst ((ts.map V.ref).take ini.length))) p3 (.lst [.ref t])) r (.lst ((ts.take ini.length ++ [t]).map V.ref)) = H4 at s4 hr4
  have s14 := s13.trans s4
  have hC4 : Chs K H4 (ts.take ini.length ++ [t]) (ini ++ [.fill c0.name 0]) := by
    have h1 := (q5.keep s14).take ini.length
    rw [List.take_left] at h1
    exact h1.app (.cons ((ht2.keep s3).keep s4) .nil)
  refine fun x dx nx ndx ndc => ?_
  have sx : Same H4 (upd (upd H4 dx (.own x)) x (.ins (He.ga K "History") dx [])) := fun b o e => by
    rw [upd_ne (ne_of_none e nx), upd_ne (ne_of_none e ndx)]
    exact e
  refine ⟨x, dx, l1, r, as1, _, cs, _, rfl, upd_same, sx _ _ (s4 _ _ hl1), (hc1.keep s4).keep sx, sx _ _ hr4, hC4.keep sx, okc, by rw [numb_placed o.pl]; exact oN, fun HB hN kp => ⟨rfl, ?_⟩⟩
  rw [numb_placed o.pl] at hN
  have sB : Same H4 HB := fun b o e => kp b o (ne_of_none e nx) (sx _ _ e)
  have sHB := s14.trans sB
  try dsimp only
  have hN := hN.at_
  obtain ⟨dy, gs, hi1⟩ := histNo hN
  obtain ⟨dz, g2, hi2⟩ := histNo (hH.keep sHB)
  have fN2 := fits_all oN.f
  refine ⟨_, rfl, _, rfl, x, dy, gs, h2, dz, g2, rfl, rfl, hi1, hi2, x, h2, cs, cs, _, _, rfl, hN, hH.keep sHB, va, va, fN2, fa, fun HE sE => ⟨_, rfl, ?_⟩⟩
  have sHE := sHB.trans sE
  have lastAt : atI (ts.map V.ref) (-1) = some (.ref (ts[ini.length]'(by omega))) := at_last tl (List.getElem?_eq_getElem (by omega))
  obtain ⟨lc, hlc, hlat⟩ := (q5.keep sHE).at_ (List.getElem?_eq_getElem (show ini.length < ts.length by omega))
  rw [List.getElem?_append_right (Nat.le_refl _), Nat.sub_self] at hlc
  obtain rfl := Option.some.inj hlc
  have htE : ChAt K HE t (.fill c0.name 0) := (((ht2.keep s3).keep s4).keep sB).keep sE
  have fl : last.fits = true := fa last (by simp)
  refine ⟨_, rfl, _, rfl, h, .ref ch, rfl, (lat_get (sHE _ _ q1)).2.1, _, rfl, ch, _, -1, .ref (ts[ini.length]'(by omega)), rfl, rfl, sqL_of (sHE _ _ q4), lastAt, chPD (.fill c0.name 0), chPD last, dp_ch htE fN, dp_ch hlat fl, ch_shaped fN, ch_shaped fl, ?_⟩
  rw [near_eq fa]
  refine ⟨rfl, ?_⟩
  rw [decide_eq_true rfl]
  exact k HE sHE
/-! o.m(e, .., k = v, ..): a method called with keywords -/
def tMethN (C : Addr) (m : Str) (n k : Nat) (sp : Sp) (gV : List V → List V → List V) (E : XK) (ta : TE) (t tk : TA) : TE := fun σ H Q => ta σ H fun x H1 => ∃ a dx fs, x = .ref a ∧ H1 a = some (.ins C dx fs) ∧ fs.lookup m = none ∧
  t σ H1 fun vs H2 => tk σ H2 fun zs H3 => vs.length + 1 = n ∧ zs.length = k ∧ sp (gV (.ref a :: vs) zs) H3 Q E
section
variable {X : Cx} {CX : CXT} {k n : Nat} {f C : Addr} {fd : FuncData} {ps ks : List Str} {sp : Sp} {E : XK} {m : Str} {apos pos : Pos} {o e : Expr} {es : List Expr} {kws : List Keyword} {ta : TE} {t tk : TA} {g : List Value → List Value → List Value} {gV : List V → List V → List V}
theorem pe_methN {pl : Sem Bool} (he : PE X o ta) (c : Cls X.K C) (hm : Meth X.K C m f) (F : FnOk X.prog X.w X.K X.mg X.base CX k f fd ps sp) (hr : Room k X.A) (hb : KBn X.K fd ps n ks g gV) (hx : Passes CX X E) (ha : PA X (e :: es) t) (hkw : PK X kws tk)
    (hall : (backToKw pos (keywordEach kws X.env)).all (·.1.isSome) = true := by rfl) (hks : (backToKw pos (keywordEach kws X.env)).filterMap (·.1) = ks := by rfl)
    (hst : starEach (e :: es) X.env = (false, eval e X.env) :: starEach es X.env := by rfl)
    (hpl : ((backTo pos (starEach (e :: es) X.env)).any (·.1) || (backToKw pos (keywordEach kws X.env)).any (·.1.isNone)) = false := by rfl)
    (ht : eval (.Call (.Attribute o m apos) (e :: es) kws pos) X.env = (do
      let ov ← eval o X.env
      standAt apos.atName
      let (f, first) ← holding [ov] (getMethod ov m pl)
      callWith pos f first (backTo pos (starEach (e :: es) X.env)) (backToKw pos (keywordEach kws X.env))) := by rfl) :
    PE X (.Call (.Attribute o m apos) (e :: es) kws pos) (tMethN C m n ks.length sp gV E ta t tk) := by
  refine ⟨fun pins s σ H Q I h => ?_⟩
  refine PySem.W.methodCall_KW (pl := pl) (thn (he.run pins s σ H _ I h) fun u s1 ⟨x, H1, I1, rx, a, dx, fs, ex, ea, l, q⟩ => ?_) ht
  subst ex
  obtain rfl : u = Value.ref a := rx
  refine getmeth_ok I1 ea c hm l ?_
  refine PySem.W.callWith_KW (first := [.ref a]) (h₀ := X.base) I.ok.mod.kin hm.kp hall (thn (ha.run pos pins s1 σ H1 _ I1 q) fun us s2 ⟨vs, H2, I2, r, q2⟩ => ?_) hpl hst
  refine thn (hkw.run pos pins s2 σ H2 _ I2 q2) fun ws s3 ⟨zs, H3, I3, rz, l1, l2, q3⟩ => ⟨I3.kIn, ?_⟩
  rw [hks]
  exact run_fnN (us := .ref a :: us) (vs := .ref a :: vs) F hr hb hx I3 (.cons rfl r) rz l1 l2 q3
end

-- needs: +METHK Column.__init__ History.columns History.__init__ History.__eq__ hindrance +LHP +CHD +COLB +NMS3 +HISP +HISTEQ
/-! what K06 asks of its histories: how many columns, the same placed anew, one more change, another first column -/
section
variable {K : PySem.W.Frag} {σ : L2.St} {H : Hp} {te : TE} {ta : TA} {j : Nat} {vs : List Nat} {Q : VK}
/-- [e for x in range(n)], e having to do with x -/
theorem tlc_GR (Rl : Nat → V → Hp → Prop) (n : Nat) (mono : ∀ i y H H', KeepNL H H' → Rl i y H → Rl i y H') (hta : ∀ R : List V → Hp → Prop, (∀ H1, Same H H1 → R [.int (n : Nat)] H1) → ta σ H R) (hz : n ≤ 100000) (hw : ∀ x, wipe ((wipe σ vs).set j (some x)) vs = wipe σ vs)
    (he : ∀ i, i < n → ∀ H', Same H H' → ∀ R : VK, (∀ y H2, Same H' H2 → Rl i y H2 → R y H2) → te ((wipe σ vs).set j (some (.int (i : Nat)))) H' R)
    (k : ∀ D ys H', H D = none → Same H H' → H' D = some (.lst ys) → ys.length = n → (∀ i y, ys[i]? = some y → Rl i y H') → Q (.ref D) H') : tLc (iRng1 ta) (gName j) tYes te vs σ H Q := by
  refine hta _ fun H1 e1 => ⟨(n : Nat), rfl, by omega, by omega, fun D hD => ?_⟩
  refine lc_range (lo := 0) (n := n) (fun i H' => Same H1 H' ∧ ∃ ys, H' D = some (.lst ys) ∧ ys.length = i ∧ ∀ m y, ys[m]? = some y → Rl m y H') ⟨same_new hD, [], upd_same, rfl, fun m y h => by simp at h⟩ ?_ ?_
  · rintro i H' hi ⟨s', ys, hys, hl, hr⟩
    rw [Int.zero_add]
    refine ⟨hw _, he i hi H' (e1.trans s') _ fun y H2 s2 hy => ⟨ys, s2 _ _ hys, ?_, same_mut (s'.trans s2) hD, ys ++ [y], upd_same, by rw [List.length_append, hl]; rfl, fun m z hm => ?_⟩⟩
    · have e : sizeLine = 16777216 := by decide
      omega
    · have kp : KeepNL H2 (upd H2 D (.lst (ys ++ [y]))) := KeepNL.lst (s2 _ _ hys)
      by_cases hm2 : m < ys.length
      · rw [List.getElem?_append_left hm2] at hm
        exact mono m z _ _ kp (mono m z _ _ (KeepNL.of s2) (hr m z hm))
      · have hm3 : m = ys.length := by
          have h := (List.getElem?_eq_some_iff.mp hm).1
          rw [List.length_append] at h
          have : [y].length = 1 := rfl
          omega
        subst hm3
        rw [List.getElem?_append_right (Nat.le_refl _), Nat.sub_self] at hm
        obtain rfl : y = z := Option.some.inj hm
        rw [hl]
        exact mono i y _ _ kp hy
  · rintro H' ⟨s', ys, hys, hl, hr⟩
    exact k D ys H' (e1.free hD) (e1.trans s') hys hl hr
end
theorem chs_of_vs {K : PySem.W.Frag} {H : Hp} : ∀ {ys : List V} {cs : List Ch}, ys.length = cs.length → (∀ (i : Nat) (y : V), ys[i]? = some y → ∃ a c, y = .ref a ∧ cs[i]? = some c ∧ ChAt K H a c) → ∃ as : List Addr, ys = as.map V.ref ∧ Chs K H as cs
  | [], [], _, _ => ⟨[], rfl, .nil⟩
  | y :: ys, c :: cs, hl, h => by
    obtain ⟨as, rfl, t⟩ := chs_of_vs (ys := ys) (cs := cs) (Nat.succ.inj hl) fun i y hy => h (i + 1) y hy
    obtain ⟨a, c', rfl, hc, q⟩ := h 0 y rfl
    obtain rfl := Option.some.inj hc
    exact ⟨a :: as, rfl, .cons q t⟩
theorem len3 {ns : List Str} (nd : ns.Nodup) (h : ∀ n ∈ ns, n ∈ nm3) : ns.length ≤ 3 := by
  have key : ∀ (ms ns : List Str), ns.Nodup → (∀ n ∈ ns, n ∈ ms) → ns.length ≤ ms.length := fun ms => by
    induction ms with
    | nil =>
      intro ns _ h
      cases ns with
      | nil => exact Nat.le_refl _
      | cons n _ => exact absurd (h n List.mem_cons_self) (by simp)
    | cons m ms ih =>
      intro ns nd h
      have h1 := ih (ns.erase m) (nd.erase m) fun n hn => by
        have h2 := (List.Nodup.mem_erase_iff nd).mp hn
        rcases List.mem_cons.mp (h n h2.2) with e | e
        · exact absurd e h2.1
        · exact e
      have h2 := List.length_erase (a := m) (l := ns)
      rw [List.length_cons]
      split at h2 <;> omega
  exact key nm3 ns nd h
theorem col3 {cs : List Col} {chs : List Ch} (o : HistOk cs chs) (h : ∀ c ∈ cs, c.name ∈ nm3) (hc : ∀ ch ∈ chs, nmCh ch = true) : (atC cs chs).1.length ≤ 3 ∧ (∀ c ∈ (atC cs chs).1, c.name ∈ nm3) ∧ Good (atC cs chs).1 (atC cs chs).2 := by
  have g := o.f.good o.g chs.length (Nat.le_refl _)
  have n := nm3_at h hc chs.length (Nat.le_refl _)
  rw [List.take_length] at g n
  refine ⟨?_, n, g⟩
  have := len3 g.names fun m hm => by
    obtain ⟨c, hc, rfl⟩ := List.mem_map.mp hm
    exact n c hc
  rw [List.length_map] at this
  exact this
abbrev zzCh : Ch := .add "zz" 1 (.int 0)
theorem zz_ok {cs : List Col} {chs : List Ch} (o : HistOk cs chs) (few : chs.length ≤ 39) (h : ∀ c ∈ cs, c.name ∈ nm3) (hc : ∀ ch ∈ chs, nmCh ch = true) : zzCh.fits = true ∧ HistOk cs (chs ++ [zzCh]) := by
  obtain ⟨l, n, g⟩ := col3 o h hc
  have ft : zzCh.fits = true := by decide +kernel
  refine ⟨ft, o.pl, o.g, o.f.app ft ?_, by rw [List.length_append]; show chs.length + 1 ≤ 40; omega⟩
  show addHind (atC cs chs).1 "zz" 1 (.int 0) = .non
  have fn : (atC cs chs).1.find? (isN "zz") = none := by
    rw [List.find?_eq_none]
    intro c hc' hz
    have e : c.name = "zz" := by simpa [isN] using hz
    have m := n c hc'
    rw [e] at m
    exact absurd m (by decide +kernel)
  unfold addHind
  rw [fn]
  show (if (6 : Nat) ≤ _ then V.str "many" else _) = _
  rw [if_neg (by omega)]
  rfl
theorem histEq_more {cs : List Col} {chs : List Ch} {x : Ch} : histEq cs (chs ++ [x]) cs chs = false := by
  have key : ∀ (as bs : List PyData), as.length ≠ bs.length → PyData.eqvAll as bs = false := fun as => by
    induction as with
    | nil =>
      intro bs h
      cases bs with
      | nil => exact absurd rfl h
      | cons _ _ => rfl
    | cons a as ih =>
      intro bs h
      cases bs with
      | nil => rfl
      | cons b bs =>
        show (PyData.eqv a b && PyData.eqvAll as bs) = false
        rw [ih bs fun e => h (by rw [List.length_cons, List.length_cons, e]), Bool.and_false]
  unfold histEq
  show (_ && PyData.eqvAll ((chs ++ [x]).map chPD) (chs.map chPD)) = false
  rw [key _ _ (by rw [List.length_map, List.length_map, List.length_append]; show chs.length + 1 ≠ _; omega), Bool.and_false]
abbrev nine : Col := ⟨"a", 9, .non, 0⟩
theorem nine_ok : ColOk nine ∧ HistOk [nine] [] := by
  have c : ColOk nine := ⟨by decide +kernel, by decide +kernel, by decide +kernel, by decide⟩
  refine ⟨c, ?_, ⟨fun d hd => ?_, by decide, by decide, by decide +kernel, by decide⟩, (fun i ch hi => by simp at hi), by decide⟩
  · intro i d hd
    cases i with
    | zero =>
      obtain rfl := Option.some.inj hd
      rfl
    | succ i => simp at hd
  · rw [List.mem_singleton.mp hd]
    exact ⟨c, by decide⟩
theorem nine_ne {cs : List Col} {chs : List Ch} (g : 1 ≤ cs.length) (t : ∀ c ∈ cs, c.top ≤ 3) : histEq [nine] [] cs chs = false := by
  unfold histEq
  have e : colsEqB [nine] cs = false := by
    unfold colsEqB
    match cs, g, t with
    | [c], _, t =>
      have ht := t c List.mem_cons_self
      show (true && (colEq nine c && true)) = false
      unfold colEq
      rw [show decide (nine.top = c.top) = false from decide_eq_false (fun e => by have e : (9 : Int) = c.top := e; omega)]
      simp
    | c :: d :: cs, _, _ =>
      rw [decide_eq_false (by intro e; simp at e), Bool.false_and]
  rw [e, Bool.false_and]
theorem numb7 {cs : List Col} (p : Placed cs) : numb (cs.map fun c => { c with num := 7 }) = cs := by
  unfold numb
  refine List.ext_getElem? fun i => ?_
  rw [List.getElem?_mapIdx, List.getElem?_map]
  cases h : cs[i]? with
  | none => rfl
  | some c =>
    have := p i c h
    show some _ = some _
    rw [← this]
theorem kb_columns (T : Tx K mg) {fd : FuncData} (F : FunD K "columns" "History.columns" (defArgs s_History_columns) (defBody s_History_columns) (defScope s_History_columns) (d_History_columns.dvs K) (d_History_columns.kws K) (He.ma K (He.ga K "History") "columns") fd) : ∃ g, KBn K fd ["self", "edition"] 1 ["edition"] g (fun vs zs => vs ++ zs) := by
  have h := F.kbindsD (ps := ["self", "edition"]) 1 ["edition"] (fun us its ws => us ++ ws) (by intro z; cases z) (fun r1 _ r4 => r1.append r4) (fun TT kV doc pm an cdv ct us its ws h1 h2 h3 => ?_)
  · obtain ⟨its, h⟩ := h
    exact ⟨_, h⟩
  · match us, h1, its, h2, ws, h3 with
    | [u0], _, [i0], _, [w0], _ => exact ⟨_, rfl, rfl⟩
section
variable {X : Cx} {CX : CXT} {k : Nat} {f C : Addr} {fd : FuncData} {ps ks : List Str} {sp : Sp} {E : XK} {m : Str} {apos pos : Pos} {o : Expr} {kws : List Keyword} {ta : TE} {tk : TA} {g : List Value → List Value → List Value} {gV : List V → List V → List V}
/-- o.m(k = v, ..): a method called with keywords only -/
theorem pe_methN0 {pl : Sem Bool} (he : PE X o ta) (c : Cls X.K C) (hm : Meth X.K C m f) (F : FnOk X.prog X.w X.K X.mg X.base CX k f fd ps sp) (hr : Room k X.A) (hb : KBn X.K fd ps 1 ks g gV) (hx : Passes CX X E) (hkw : PK X kws tk)
    (hall : (backToKw pos (keywordEach kws X.env)).all (·.1.isSome) = true := by rfl) (hks : (backToKw pos (keywordEach kws X.env)).filterMap (·.1) = ks := by rfl)
    (hpl : ((backTo pos (starEach [] X.env)).any (·.1) || (backToKw pos (keywordEach kws X.env)).any (·.1.isNone)) = false := by rfl)
    (ht : eval (.Call (.Attribute o m apos) [] kws pos) X.env = (do
      let ov ← eval o X.env
      standAt apos.atName
      let (f, first) ← holding [ov] (getMethod ov m pl)
      callWith pos f first (backTo pos (starEach [] X.env)) (backToKw pos (keywordEach kws X.env))) := by rfl) :
    PE X (.Call (.Attribute o m apos) [] kws pos) (tMethN C m 1 ks.length sp gV E ta tNil tk) := by
  refine ⟨fun pins s σ H Q I h => ?_⟩
  refine PySem.W.methodCall_KW (pl := pl) (thn (he.run pins s σ H _ I h) fun u s1 ⟨x, H1, I1, rx, a, dx, fs, ex, ea, l, q⟩ => ?_) ht
  subst ex
  obtain rfl : u = Value.ref a := rx
  refine getmeth_ok I1 ea c hm l ?_
  refine PySem.W.callWith_KW0 (first := [.ref a]) (h₀ := X.base) I.ok.mod.kin hm.kp hall ?_ hpl
  refine thn (hkw.run pos pins s1 σ H1 _ I1 q) fun ws s3 ⟨zs, H3, I3, rz, l1, l2, q3⟩ => ⟨I3.kIn, ?_⟩
  rw [hks]
  exact run_fnN (us := [.ref a]) (vs := [.ref a]) F hr hb hx I3 (.cons rfl .nil) rz l1 l2 q3
end

/-! xs != ys of lists whose items are equal one by one, own == among them -/
section
open PySem.SeqAt
open PySem.AutoSeq1 (wpAny_loadPart')
open PySem.MeetsSeq PySem.MeetsSeq2 PySem.MeetsSeq3 PySem.SeqRoads2
section
variable {prog : Program} {w : World} {A : Around} {R : Result → Shared → Prop}
theorem nw_loop (l b : Addr) (N : Nat) (J : Nat → Shared → Prop) (turns : GQ.ListI prog w A (fun e s' => R (.error e) s') l b N J) (last : ∀ s, J N s → R (.ok (.ret (.bool false))) s) :
    ∀ (m i : Nat), N - i = m → i ≤ N → ∀ s, J i s → wpAny (model prog w) A.in1 (Builtin.«list.__eq__.loop» ⟨[.ref l, .ref b, rawInt i, rawInt 3], []⟩) (GQ.FinOf prog w A R) (fun e s' => R (.error e) s') s
  | 0, i, hm, hi, s, hJ => by
    obtain ⟨us, vs, n, n2, hu, hv, zu, zv, _⟩ := turns i s hJ
    have ei : i = N := by omega
    have done := last s (ei ▸ hJ)
    obtain ⟨hp, g, d, tk, os⟩ := s
    wp_walk using wpAny_loadPart' hu, wpAny_loadPart' hv
    rw [show us[((i : Nat) : Int).toNat]? = none by simp; omega, show vs[((i : Nat) : Int).toNat]? = none by simp; omega]
    wp_walk using wpAny_loadPart' hu, wpAny_loadPart' hv
    show R (.ok (.ret (.bool (us.size != vs.size)))) _
    rw [zu, zv]
    simpa using done
  | m + 1, i, hm, hi, s, hJ => by
    obtain ⟨us, vs, n, n2, hu, hv, zu, zv, turn⟩ := turns i s hJ
    have lu : i < us.size := by omega
    have lv : i < vs.size := by omega
    have one := turn lu lv
    obtain ⟨hp, g, d, tk, os⟩ := s
    wp_walk using wpAny_loadPart' hu, wpAny_loadPart' hv
    rw [show us[((i : Nat) : Int).toNat]? = some us[i] by simp [lu], show vs[((i : Nat) : Int).toNat]? = some vs[i] by simp [lv]]
    refine wpAny_bind (wpAny_mono one (fun r s2 q => ?_) fun _ _ x => x)
    obtain ⟨er, hJ2⟩ := q
    subst er
    have rest := nw_loop l b N J turns last m (i + 1) (by omega) (by omega) s2 hJ2
    obtain ⟨hp2, g2, d2, tk2, os2⟩ := s2
    wp_walk
    rw [show ((i : Int) + 1) = ((i + 1 : Nat) : Int) by omega]
    exact ⟨plainId_quiet plain_eq_loop _, codeAny_builtin entry_eq_loop (by
      rw [Around.under_plainId plain_eq_loop _]
      exact rest)⟩
theorem nw_list (l b : Addr) (N : Nat) (J : Nat → Shared → Prop) (turns : GQ.ListI prog w A (fun e s' => R (.error e) s') l b N J) (last : ∀ s, J N s → R (.ok (.ret (.bool false))) s) {s : Shared} (hJ : J 0 s) :
    wpAny (model prog w) A.in1 (Builtin.«list.__ne__» ⟨[.ref l, .ref b], []⟩) (GQ.FinOf prog w A R) (fun e s' => R (.error e) s') s := by
  obtain ⟨us, vs, n, n2, hu, hv, zu, zv, _⟩ := turns 0 s hJ
  have rest := nw_loop (A := A) (R := R) l b N J turns last N 0 rfl (Nat.zero_le _) s hJ
  obtain ⟨hp, g, d, tk, os⟩ := s
  have both := AutoSeq1.sub_list_list
  have same : ¬ (us.size != vs.size) = true := by simp [zu, zv]
  wp_walk using wpAny_loadPart' hu, wpAny_loadPart' hv
  exact ⟨plainId_quiet plain_eq_loop _, codeAny_builtin entry_eq_loop (by
    rw [Around.under_plainId plain_eq_loop _]
    exact rest)⟩
end
theorem nw_rc {prog : Program} {w : World} {A : Around} {E : Value → Shared → Prop} {s : Shared} {l b : Addr} {N : Nat} {Q : Value → Shared → Prop} (hu : A.units < cLine) (J : Nat → Shared → Prop) (turns : GQ.ListI prog w A E l b N J) (last : ∀ s, J N s → Q (.bool false) s) (hJ : J 0 s) :
    wpAny (model prog w) A (richCompare .NotEq (.ref l) (.ref b)) Q E s := by
  obtain ⟨us, vs, n, n2, h1, h2, _⟩ := turns 0 s hJ
  refine wpAny_richCompare_same_room (op := .NotEq) ⟨_, h1, rfl⟩ ⟨_, h2, rfl⟩ F.slot_list_ne (GQ.call_here F.slot_list_ne ⟨_, h1, rfl⟩ F.entry_list_ne (F.args_list_ne_2 _ _) ?_) hu
  exact nw_list (R := wants (fun v s' => v ≠ .notImplemented ∧ Q v s') E) l b N J turns (fun s' q => ⟨(fun x => nomatch x), last s' q⟩) hJ
end
def rNeG (D : Eqv) : R2 := fun x y H Q => DList D x y H ∧ ∀ H', Ext H H' → Q (.bl false) H'
theorem op_neG {X : Cx} {n : Nat} {D : Eqv} (hD : Mon D) (h : EqG X n D) (hr : Room (n + 1) X.A) : OpR X (compareOp .NotEq) (rNeG D) := by
  intro pins s σ H x y v u Q I rx ry q
  obtain ⟨⟨a, b, xs, ys, rfl, rfl, ha, hb, p⟩, k⟩ := q
  cases rx
  cases ry
  have sb : Sub X (n + 1) X.A := ⟨hr, rfl⟩
  show wpAny (model X.prog X.w) X.A (richCompare .NotEq (.ref a) (.ref b)) (EP X pins σ Q) X.xe s
  refine nw_rc (N := xs.length) hr.units0 (fun _ s' => LoopI X pins σ H s') (fun i s' q => ?_) (fun s' q => ?_) ⟨H, I, Ext.rfl'⟩
  · obtain ⟨H1, I1, e1⟩ := id q
    obtain ⟨z, its, k1, r, e⟩ := I1.hok a _ (e1 _ _ ha)
    obtain ⟨z2, its2, k2, r2, e2⟩ := I1.hok b _ (e1 _ _ hb)
    exact ⟨its.toArray, its2.toArray, k1, k2, e, e2, by rw [List.size_toArray, ← r.length], by rw [List.size_toArray, ← r2.length, ← p.1], fun h1 h2 => turnG hD h sb p r r2 i h1 h2 s' q⟩
  · obtain ⟨H1, I1, e1⟩ := q
    exact ⟨.bl false, H1, I1, rfl, k H1 e1⟩

-- needs: Column.__eq__ +NELIST
/-! != of lists of Columns -/
def ColR (K : PySem.W.Frag) : Addr → Addr → Hp → Prop := fun a b H => ∃ c, ColA K H a c ∧ ColA K H b c ∧ isVal c.dflt = true
theorem colR_mon {K : PySem.W.Frag} (a b : Addr) (H H' : Hp) (e : Ext H H') (h : ColR K a b H) : ColR K a b H' := by
  obtain ⟨c, h1, h2, h3⟩ := h
  exact ⟨c, ColA.keep e h1, ColA.keep e h2, h3⟩
abbrev DCol (K : PySem.W.Frag) : Eqv := DIns (He.ga K "Column") (ColR K)
theorem eqG_col {X : Cx} {f : Addr} {fd : FuncData} {ps : List Str} (F : FnOk X.prog X.w X.K X.mg X.base CX0 1 f fd ps (sp_Col_eq X.K)) (hm : Meth X.K (He.ga X.K "Column") "__eq__" f) (hb : Binds X.K fd ps []) : EqG X 1 (DCol X.K) := by
  have F2 : FnOk X.prog X.w X.K X.mg X.base CX0 1 f fd ps (spEq (ColR X.K)) := F.imp fun vs H Q E h => by
    obtain ⟨a, b, rfl, ⟨c, h1, h2, h3⟩, k⟩ := h
    exact ⟨a, b, c, c, rfl, h1, h2, h3, h3, by rw [colEq_self]; exact k H (fun _ _ e => e)⟩
  refine (rcG_ins (E := E0) F2 hm.at_ hm.fn hb pass0).eqG fun x y H d => ?_
  obtain ⟨a, b, _, _, _, _, h1, h2, _⟩ := d
  exact ⟨a, b, h1, h2⟩
theorem op_neCols {X : Cx} {f : Addr} {fd : FuncData} {ps : List Str} (F : FnOk X.prog X.w X.K X.mg X.base CX0 1 f fd ps (sp_Col_eq X.K)) (hm : Meth X.K (He.ga X.K "Column") "__eq__" f) (hb : Binds X.K fd ps []) (hr : Room 2 X.A) : OpR X (compareOp .NotEq) (rNeG (DCol X.K)) :=
  op_neG (mon_ins colR_mon) (eqG_col F hm hb) hr
theorem prs_cols {K : PySem.W.Frag} {H : Hp} : ∀ {as bs : List Addr} {cs : List Col}, Cols K H as cs → Cols K H bs cs → (∀ c ∈ cs, isVal c.dflt = true) → Prs (DCol K) (as.map V.ref) (bs.map V.ref) H
  | _, _, _, .nil, .nil, _ => Prs.nil
  | _, _, _, .cons (a := a) (c := c) h1 t1, .cons (a := b) h2 t2, hv => by
    obtain ⟨dx, e1⟩ := id h1
    obtain ⟨dy, e2⟩ := id h2
    exact Prs.cons ⟨a, b, dx, dy, _, _, rfl, rfl, e1, e2, c, h1, h2, hv c List.mem_cons_self⟩ (prs_cols t1 t2 fun d hd => hv d (List.mem_cons_of_mem _ hd))
theorem ne_cols {K : PySem.W.Frag} {H : Hp} {l m : Addr} {as bs : List Addr} {cs : List Col} {Q : VK} (hl : H l = some (.lst (as.map V.ref))) (hm : H m = some (.lst (bs.map V.ref))) (h1 : Cols K H as cs) (h2 : Cols K H bs cs) (hv : ∀ c ∈ cs, isVal c.dflt = true) (k : ∀ H', Same H H' → Q (.bl false) H') :
    rNeG (DCol K) (.ref l) (.ref m) H Q := ⟨⟨l, m, _, _, rfl, rfl, hl, hm, prs_cols h1 h2 hv⟩, fun H' e => k H' e⟩

/-! a block, then the rest: what holds between them is named -/
theorem s_seq {t U : TS} {D : Ends} {σ : L2.St} {H : Hp} (P : L2.St → Hp → Prop) (k : ∀ σ' H', P σ' H' → U D σ' H') (h : (∀ σ' H', P σ' H' → U D σ' H') → tSeq t U D σ H) : tSeq t U D σ H := h k
theorem pl_rop {σ : L2.St} {H : Hp} {D : Ends} {ta tb : TE} {r : V → V → Hp → VK → Prop} (h : ta σ H fun x H1 => tb σ H1 fun y H2 => r x y H2 D.rt) : tRet (tOp r ta tb) D σ H := h
theorem pl_ifb {σ : L2.St} {H : Hp} {D : Ends} {X : TE} {r : List V → Hp → VK → Prop} {t u U : TS} (h : X σ H fun v H1 => r [v] H1 fun z H2 => ∃ b, z = .bl b ∧ (if b = true then t { D with nx := U D } σ H2 else u { D with nx := U D } σ H2)) : tSeq (tIfS (tB (tCB r (tCons X tNil))) t u) U D σ H := h

-- needs: Column.__eq__ Column.__init__ +NINS
/-! column == what is no Column; Column(name, greatest) -/
def sp_Col_eqN (K : PySem.W.Frag) : Sp := fun vs H Q _ => ∃ (a : Addr) (y : V) (t : String), vs = [.ref a, y] ∧ flatT y = some t ∧ Q (.bl false) H
theorem ok_Col_eqN (T : Tx K mg) : ∃ fd, FnOk P w K mg base CX0 1 (He.ma K (He.ga K "Column") "__eq__") fd ["self", "other"] (sp_Col_eqN K) ∧ Binds K fd ["self", "other"] [] := by
  refine mkMeth (fd_Column___eq__ T) sc_Column___eq__ (fun _ _ _ _ _ _ us hl => match us, hl with | [_, _], _ => rfl) (fun vs H Q E h => ?_) (fun cdv A outer s H vs Q E hr h => ?_)
  · obtain ⟨a, y, t, rfl, _⟩ := h
    rfl
  obtain ⟨a, y, t, rfl, ht, k⟩ := h
  refine ⟨_, pss_one (ps_ret (pe_and (pe_callB (call_isNo (ex_Column_nin T)) (by rfl) (fr_isinstance T) (by decide +kernel) (pa_cons (pv 1) (pa_cons (pe_glob (v := .ref (He.ga K "Column")) (by rfl) (mg_Column T) rfl) pa_nil)))
    (pe_and (pe_cmpR op_eq (pe_fld (pv 0) rfl) (pe_fld (pv 1) rfl) (nomark _)) (pe_and (pe_cmpR op_eq (pe_fld (pv 0) rfl) (pe_fld (pv 1) rfl) (nomark _)) (pe_and (pe_cmpR op_eq (pe_fld (pv 0) rfl) (pe_fld (pv 1) rfl) (nomark _)) (pe_one (pe_cmpR op_eq (pe_fld (pv 0) rfl) (pe_fld (pv 1) rfl) (nomark _)))))))), ?_⟩
  exact ⟨_, rfl, y, t, rfl, flatT_ty ht, flatT_in ht, _, rfl, iteF k⟩
theorem binds_Col2 (T : Tx K mg) {fd : FuncData} (F : FunD K "__init__" "Column.__init__" (defArgs s_Column___init__) (defBody s_Column___init__) (defScope s_Column___init__) (d_Column___init__.dvs K) (d_Column___init__.kws K) (He.ma K (He.ga K "Column") "__init__") fd) :
    ∃ ds, Vals [V.non, V.int 0] ds ∧ Binds K fd ["self", "name", "greatest", "default", "number"] ds := by
  have h := F.binds (ps := ["self", "name", "greatest", "default", "number"]) 3 0 (by intro z; cases z) rfl (fun TT D doc pm an cdv ct us its ks h1 h2 h3 => ?_) (by intro z; cases z)
  · exact h
  · match us, h1, its, h2, ks, h3 with
    | [u0, u1, u2], _, [i0], _, [k0], _ => exact ⟨_, rfl, _, _, _, _, _, _, rfl, rfl, rfl⟩
theorem dflat {v : V} {t : String} {H : Hp} (h : flatT v = some t) : DFlat v v H := by
  cases v with
  | non => exact ⟨rfl, rfl, rfl⟩
  | bl b => exact ⟨rfl, rfl, by cases b <;> rfl⟩
  | int i => exact ⟨rfl, rfl, beq_self_eq_true i⟩
  | str z => exact ⟨rfl, rfl, beq_self_eq_true z⟩
  | _ => cases h
theorem dflats {H : Hp} : ∀ {xs : List V}, (∀ x ∈ xs, ∃ t, flatT x = some t) → Prs DFlat xs xs H
  | [], _ => Prs.nil
  | x :: xs, h => by
    obtain ⟨t, ht⟩ := h x List.mem_cons_self
    exact Prs.cons (dflat ht) (dflats fun y hy => h y (List.mem_cons_of_mem _ hy))

theorem chAt_keepNL {K : PySem.W.Frag} {H H' : Hp} {t : Addr} {c : Ch} (s : KeepNL H H') (h : ChAt K H t c) : ChAt K H' t c := by
  have q : Chs K H [t] [c] := .cons h .nil
  have q := q.keepNL s
  cases q with
  | cons q _ => exact q
abbrev sevC (cs : List Col) : List Col := cs.map fun c => { c with num := (7 : Int) }
def sp_law (K : PySem.W.Frag) : Sp := fun vs H Q _ => ∃ (a : Addr) (ns : List Int), vs = [.ref a] ∧ SqL K H a (ns.map V.int) ∧ ns.length ≤ 63 ∧ (∀ z ∈ ns, Builtin.Int.intBits z ≤ 1048576) ∧ ∀ H', Q (.bl true) H'
abbrev NL : List Str := ["_law_script", "_law_k", "_law_pool_here", "_law_h", "_law_history_here", "_law_turn", "_law_at", "_law_told", "_law_strange", "_law_other", "_law_col"]
theorem ok_law (T : Tx K mg) {fd : FuncData} (F : FunD K "law" "law" (defArgs s_law) (defBody s_law) (defScope s_law) (d_law.dvs K) (d_law.kws K) (He.ga K "law") fd) : FnOk P w K mg base CX0 14 (He.ga K "law") fd ["_law_script"] (sp_law K) := by
  have Cpool := (ok_pool (P := P) (w := w) (base := base) T).up (show 1 ≤ 13 by decide)
  have Chist := (ok_law_historyT (P := P) (w := w) (base := base) T).up (show 5 ≤ 13 by decide)
  have Cmade := ok_made (P := P) (w := w) (base := base) T
  have Clc := (ok_lcols (P := P) (w := w) (base := base) T).up (show 6 ≤ 13 by decide)
  have Chr := ok_handed (P := P) (w := w) (base := base) T
  have Cnr := ok_near6 (P := P) (w := w) (base := base) T
  obtain ⟨fdC, FC, bC0, ⟨dsC, vC, bC⟩, FDC⟩ := ok_Hist_columnsK (P := P) (w := w) (base := base) T
  obtain ⟨gC, kbC⟩ := kb_columns T FDC
  obtain ⟨fdF, FF, bF⟩ := ok_Hist_first (P := P) (w := w) (base := base) T
  obtain ⟨fdT, FT, bT⟩ := ok_Hist_changes (P := P) (w := w) (base := base) T
  obtain ⟨fdN, FN, bN⟩ := ok_Hist_numbers (P := P) (w := w) (base := base) T
  obtain ⟨fdL, FL, bL⟩ := ok_Hist_len (P := P) (w := w) (base := base) T
  obtain ⟨fdG, FG, bG⟩ := ok_Hist_get (P := P) (w := w) (base := base) T
  obtain ⟨fdQ, FQ, bQ⟩ := ok_Hist_eq (P := P) (w := w) (base := base) T
  obtain ⟨fdQ2, FQ2, bQ2⟩ := ok_Hist_eqN (P := P) (w := w) (base := base) T
  obtain ⟨fdE, FE, bE⟩ := ok_Col_eq (P := P) (w := w) (base := base) T
  obtain ⟨fdCI, GCI, FCI⟩ := ok_Col_init (P := P) (w := w) (base := base) T
  obtain ⟨_, _, kb⟩ := kbinds_Col T FCI
  obtain ⟨dsc, vc, bc⟩ := binds_Col2 T FCI
  obtain ⟨fdI, GI, FI⟩ := ok_Hist_initB (P := P) (w := w) (base := base) T
  have bI : Binds K fdI ["self", "columns", "changes"] [] := by
    have h := FI.binds1 (ps := ["self", "columns", "changes"]) 3 1 (by intro z; cases z) rfl (fun TT kV doc pm an cdv ct us its h1 h2 => ?_)
    · obtain ⟨ds, v, b⟩ := h
      cases ds with
      | nil => exact b
      | cons _ _ => cases v
    · match us, h1, its, h2 with
      | [u0, u1, u2], _, [i0], _ => exact ⟨_, rfl, rfl⟩
  have bH : ∃ ds, Vals [V.ref (He.dflAt ("History", some "__init__") 0 K)] ds ∧ Binds K fdI ["self", "columns", "changes"] ds := by
    have h := FI.binds1 (ps := ["self", "columns", "changes"]) 2 0 (by intro z; cases z) rfl (fun TT kV doc pm an cdv ct us its h1 h2 => ?_)
    · exact h
    · match us, h1, its, h2 with
      | [u0, u1], _, [i0], _ => exact ⟨_, rfl, rfl⟩
  obtain ⟨dsH, vH, bH⟩ := bH
  have hT0 := emptyTupB_ok (ex_History___init___0 T)
  have nin : ninB K "History" = true := ex_History_nin T
  have gr : mg "range" = none := fr_range T
  have gl : mg "len" = none := fr_len T
  refine F.ok (CX := CX0) (N := NL) sc_law (fun vs H Q E h => ?_) (fun cdv A outer s H vs Q E hr h => ?_)
  · obtain ⟨a, ns, rfl, _⟩ := h
    rfl
  suffices hh : ∃ t, PSs (cxOf CX0 P w K mg base NL "law" (defScope s_law) (He.ga K "law") cdv A outer s H E).nox (defBody s_law) t ∧ t { nx := fun _ H' => Q .non H', rt := Q } (start NL vs) H by
    obtain ⟨t, h1, h2⟩ := hh
    exact ⟨t, h1.nox, h2⟩
  obtain ⟨a, ns, rfl, hs, hlen, _, kk⟩ := h
  have nd := sc_law.nd
  have hu := hu_of hr
  have hr1 : Room 1 _ := hr.mono (by decide)
  have hr2 : Room 2 _ := hr.mono (by decide)
  have hr3 : Room 3 _ := hr.mono (by decide)
  have hr4 : Room 4 _ := hr.mono (by decide)
  have hr5 : Room 5 _ := hr.mono (by decide)
  have hr12 : Room 12 _ := hr.mono (by decide)
  refine ⟨_, (pss_cons (ps_for PassesOwn.never rfl (pi_range1 (by rfl) gr (pa_cons (pe_callB (call_max2 rfl) (by rfl) (fr_max T) (by decide +kernel) (pa_cons pe_int (pa_cons (pe_callB (call_min2 rfl) (by rfl) (fr_min T) (by decide +kernel) (pa_cons (pe_callB call_len (by rfl) gl PySem.boot_len (pa_cons (pv 0) pa_nil)) (pa_cons pe_int pa_nil))) pa_nil))) pa_nil)) (pg_name (i := 1) nd rfl (Or.inl rfl)) (pss_cons (ps_set (i := 2) nd rfl (Or.inl rfl) (pcall Cpool hr (pa_cons (pv 0) (pa_cons (pv 1) pa_nil))))
        (pss_cons (ps_set (i := 3) nd rfl (Or.inl rfl) (pcall Chist hr (pa_cons (pv 2) (pa_cons pe_int (pa_cons pe_int pa_nil)))))
        (pss_cons (ps_set (i := 4) nd rfl (Or.inr rfl) (pcall Cmade hr (pa_cons (pv 3) pa_nil)))
        (pss_cons (ps_for PassesOwn.never rfl (pi_range1 (by rfl) gr (pa_cons pe_int pa_nil)) (pg_name (i := 5) nd rfl (Or.inl rfl)) (pss_cons (ps_if (PW.pt (pw_or (pt_cmpR (op_neCols FE (me_Column___eq__ T) bE hr2) (pe_meth0 (pv 4) (cl_History T) (me_History_first_columns T) FF hr1 bF .nil pass0) (pcall Clc hr (pa_cons (pe_ix ix_list (pe_dget hu (pv 3) pe_str (fun _ _ => rfl)) pe_int (fun _ _ => rfl)) pa_nil)) (nomark _)) (pw_or1 (pt_cmpR (op_neCols FE (me_Column___eq__ T) bE hr2) (pe_meth0 (pv 4) (cl_History T) (me_History_columns T) FC hr5 bC vC pass0) (pcall Clc hr (pa_cons (pe_ix ix_list (pe_dget hu (pv 3) pe_str (fun _ _ => rfl)) (pe_un un_neg pe_int) (fun _ _ => rfl)) pa_nil)) (nomark _))))) (pss_one (ps_ret pe_bl)) pss_nil)
        (pss_cons (ps_if (PW.pt (pw_or (pt_cmpR (op_neD (hr64 hr)) (pe_meth0 (pv 4) (cl_History T) (me_History_changes_told T) FT hr1 bT .nil pass0) (pe_dget hu (pv 3) pe_str (fun _ _ => rfl)) (nomark _)) (pw_or (pt_cmpR op_ne (pe_callB (call_lenOwn FL (me_History___len__ T) hr2 bL pass0) (by rfl) gl PySem.boot_len (pa_cons (pv 4) pa_nil)) (pe_callB call_len (by rfl) gl PySem.boot_len (pa_cons (pe_dget hu (pv 3) pe_str (fun _ _ => rfl)) pa_nil)) (nomark _)) (pw_or1 (pt_cmpR op_ne (pe_meth0 (pv 4) (cl_History T) (me_History_numbers T) FN hr1 bN .nil pass0) (pe_dget hu (pv 3) pe_str (fun _ _ => rfl)) (nomark _)))))) (pss_one (ps_ret pe_bl)) pss_nil)
        (pss_cons (ps_for PassesOwn.never rfl (pi_range1 (by rfl) gr (pa_cons (pe_callB call_len (by rfl) gl PySem.boot_len (pa_cons (pe_dget hu (pv 3) pe_str (fun _ _ => rfl)) pa_nil)) pa_nil)) (pg_name (i := 6) nd rfl (Or.inl rfl)) (pss_cons (ps_if (PW.pt (pw_or (pt_cmpR (op_neCols FE (me_Column___eq__ T) bE hr2) (pe_meth (pv 4) (cl_History T) (me_History_columns T) FC hr5 bC0 .nil pass0 (pa_cons (pv 6) pa_nil)) (pcall Clc hr (pa_cons (pe_ix ix_list (pe_dget hu (pv 3) pe_str (fun _ _ => rfl)) (pv 6) (fun _ _ => rfl)) pa_nil)) (nomark _)) (pw_or1 (pt_cmpR (op_neCols FE (me_Column___eq__ T) bE hr2) (pe_methN0 (pv 4) (cl_History T) (me_History_columns T) FC hr5 kbC pass0 (pk_cons (pv 6) pk_nil)) (pe_meth (pv 4) (cl_History T) (me_History_columns T) FC hr5 bC0 .nil pass0 (pa_cons (pv 6) pa_nil)) (nomark _))))) (pss_one (ps_ret pe_bl)) pss_nil)
        (pss_one (ps_expr (pe_bm PySem.F.plainAttrs_list PySem.F.slot_list_append PySem.F.type_list_append mt_append (pe_meth (pv 4) (cl_History T) (me_History_columns T) FC hr5 bC0 .nil pass0 (pa_cons (pv 6) pa_nil)) (pa_cons pe_non pa_nil))))))
        (pss_one (ps_for PassesOwn.never rfl (pi_list (pe_lst (pa_cons (pe_meth0 (pv 4) (cl_History T) (me_History_first_columns T) FF hr1 bF .nil pass0) (pa_cons (pe_meth0 (pv 4) (cl_History T) (me_History_changes_told T) FT hr1 bT .nil pass0) pa_nil)))) (pg_name (i := 7) nd rfl (Or.inl rfl)) (pss_one (ps_expr (pe_bm PySem.F.plainAttrs_list PySem.F.slot_list_append PySem.F.type_list_append mt_append (pv 7) (pa_cons pe_non pa_nil))))))))))
        (pss_cons (ps_if (pt_cmpR (op_neD (hr64 hr)) (pe_lc (own := [("_law_at", 6)]) (g := gName 6) (tt := tYes) (te := tOp (rIxOwn (He.ga K "History") (sp_Hist_get K) E0) (tVar 4) (tVar 6)) rfl nd (pi_range1 (by rfl) gr (pa_cons (pe_callB (call_lenOwn FL (me_History___len__ T) hr2 bL pass0) (by rfl) gl PySem.boot_len (pa_cons (pv 4) pa_nil)) pa_nil)) (blkOk_by (N := NL) (sc := defScope s_law) (by decide +kernel)) (fun _ _ _ _ _ => (pg_name (i := 6) nd rfl (Or.inl rfl))) (fun _ _ _ _ _ => pts_nil) (fun _ _ _ _ _ => (pe_ixOwn FG (me_History___getitem__ T) (ex_History_fnx T) hr3 bG pass0 (pv 4) (pv 6) (fun _ _ => rfl)))) (pe_dget hu (pv 3) pe_str (fun _ _ => rfl)) (nomark _)) (pss_one (ps_ret pe_bl)) pss_nil)
        (pss_cons (ps_setLc (i := 8) (own := [("_law_col", 10)]) (g := gName 10) (tt := tYes) (te := tMakeK (He.ga K "Column") 3 (["number"] : List Str).length (sp_Col_init K) (fun vs zs => vs ++ zs) E0 (tCons (tOp (rIxT K) (tVar 10) (tC (.int 0))) (tCons (tOp (rIxT K) (tVar 10) (tC (.int 1))) (tCons (tOp (rIxT K) (tVar 10) (tC (.int 2))) tNil))) (tCons (tC (.int 7)) tNil)) rfl nd rfl rfl (by rfl) (pi_list (pe_ix ix_list (pe_dget hu (pv 3) pe_str (fun _ _ => rfl)) pe_int (fun _ _ => rfl))) (blkOk_by (N := NL) (sc := defScope s_law) (by decide +kernel)) (fun _ _ _ _ _ => (pg_name (i := 10) nd rfl (Or.inl rfl))) (fun _ _ _ _ _ => pts_nil) (fun _ _ _ _ _ => pe_makeK (mk_Column T) GCI hr5 (by rfl) (mg_Column T) kb pass0 (pa_cons (pe_ix ix_tup (pv 10) pe_int (fun _ _ => rfl)) (pa_cons (pe_ix ix_tup (pv 10) pe_int (fun _ _ => rfl)) (pa_cons (pe_ix ix_tup (pv 10) pe_int (fun _ _ => rfl)) pa_nil))) (pk_cons pe_int pk_nil)))
        (pss_cons (ps_if (PW.pt (pw_or (pt_cmpR (op_neOwn FQ (me_History___eq__ T) (neC_of (ex_History_ne T)) hr4 bQ pass0) (pe_make (mk_History T) GI hr12 (by rfl) (mg_History T) bI .nil pass0 (pa_cons (pv 8) (pa_cons (pe_callTy call_tuple_of (by rfl) (fr_tuple T) (by decide +kernel) (pa_cons (pe_dget hu (pv 3) pe_str (fun _ _ => rfl)) pa_nil)) pa_nil))) (pv 4) (nomark _)) (pw_or (pt_cmpR (op_eqDict nin FQ2 (me_History___eq__ T) hr3 bQ2 pass0) (pv 4) (pv 3) (nomark _)) (pw_or1 (pt_cmpR (op_neOwn FQ (me_History___eq__ T) (neC_of (ex_History_ne T)) hr4 bQ pass0) (pv 4) (pcall Cmade hr (pa_cons (pv 3) pa_nil)) (nomark _)))))) (pss_one (ps_ret pe_bl)) pss_nil)
        (pss_cons (ps_if (PW.pt (pw_or (pt_not (pt_val (pcall Chr hr (pa_cons (pv 3) (pa_cons (pv 4) pa_nil))))) (pw_or1 (pt_not (pt_val (pcall Cnr hr (pa_cons (pv 3) (pa_cons (pv 4) pa_nil)))))))) (pss_one (ps_ret pe_bl)) pss_nil)
        (pss_cons (ps_set (i := 9) nd rfl (Or.inl rfl) (pe_ifExp (pt_cmpR op_lt (pe_callB call_len (by rfl) gl PySem.boot_len (pa_cons (pe_ix ix_list (pe_dget hu (pv 3) pe_str (fun _ _ => rfl)) (pe_un un_neg pe_int) (fun _ _ => rfl)) pa_nil)) pe_int (nomark _)) (pe_make (mk_History T) GI hr12 (by rfl) (mg_History T) bI .nil pass0 (pa_cons (pv 8) (pa_cons (pe_op op_cat (pe_dget hu (pv 3) pe_str (fun _ _ => rfl)) (pe_lst (pa_cons (pe_tup (pa_cons pe_str (pa_cons pe_str (pa_cons pe_int (pa_cons pe_int pa_nil))))) pa_nil))) pa_nil))) pe_non))
        (pss_one (ps_if (PW.pt (pw_or (pt_cmpR (op_eqOwn FQ (me_History___eq__ T) hr3 bQ pass0) (pv 9) (pv 4) (nomark _)) (pw_or1 (pt_cmpR (op_eqOwn FQ (me_History___eq__ T) hr3 bQ pass0) (pe_make (mk_History T) GI hr12 (by rfl) (mg_History T) bH vH pass0 (pa_cons (pe_lst (pa_cons (pe_make (mk_Column T) GCI hr5 (by rfl) (mg_Column T) bc vc pass0 (pa_cons pe_str (pa_cons pe_int pa_nil))) pa_nil)) pa_nil)) (pv 4) (nomark _))))) (pss_one (ps_ret pe_bl)) pss_nil))))))))))))
        (pss_one (ps_ret pe_bl))), ?_⟩
  refine ⟨_, rfl, _, (ns.map V.int).length, rfl, .inl ⟨_, hs, rfl⟩, _, _, rfl, _, _, rfl, _, rfl, ?_, ?_, ?_⟩
  · split <;> (try split) <;> omega
  · split <;> (try split) <;> omega
  generalize hN : (if (if (2 : Int) < (((ns.map V.int).length : Nat) : Int) then (2 : Int) else (((ns.map V.int).length : Nat) : Int)) > 1 then (if (2 : Int) < (((ns.map V.int).length : Nat) : Int) then (2 : Int) else (((ns.map V.int).length : Nat) : Int)) else 1) = nT
  have hT2 : nT ≤ 2 := by
    rw [← hN]
    split <;> (try split) <;> omega
  refine for_range (lo := 0) (n := nT.toNat) (fun i σ H' => Same H H' ∧ ∃ y1 y2 y3 y4 y5 y6 y7 y8 y9 y10 : Option V, σ = [some (.ref a), y1, y2, y3, y4, y5, y6, y7, y8, y9, y10]) ⟨Same.refl _, _, _, _, _, _, _, _, _, _, _, rfl⟩ ?_ ?_
  case refine_2 =>
    rintro σ H' ⟨_, y1, y2, y3, y4, y5, y6, y7, y8, y9, y10, rfl⟩
    exact kk H'
  rintro i σ H0 hi ⟨sH, y1, y2, y3, y4, y5, y6, y7, y8, y9, y10, rfl⟩
  have hk0 : 0 ≤ (0 : Int) + (i : Int) := by omega
  have hk1 : (0 : Int) + (i : Int) ≤ 1000 := by omega
  generalize hkk : (0 : Int) + (i : Int) = kI at hk0 hk1
  refine q_asgX ⟨_, rfl, _, rfl, a, ns, kI, rfl, sH.seq hs, hk0, hk1, fun p H1 z0 z1 np s1 hp => ?_⟩
  refine q_asgX ⟨_, rfl, p, z0, z1, 8, 3, rfl, hp, by decide, by decide, by decide, by decide, fun h cs chs w0 w1 H2 nh b2 hp2 hL hO hfew nms nch tops => ?_⟩
  refine q_asgX ⟨_, rfl, h, cs, chs, rfl, hL, hO, fun h2 H3 nh2 s3 hQ => ?_⟩
  have hL3 := hL.keep s3
  have s03 : Same H0 H3 := (But.same b2 s1 np).trans s3
  have hH := hQ.at_
  have few := hO.few
  have six := hO.g.six
  have few1 : chs.length ≤ 1000 := by omega
  have okc : ∀ c ∈ cs, ColOk c := fun c hc => (hO.g.ok c hc).1
  have va := ok_vals hO.g
  have fa := fits_all hO.f
  have back : ∀ {H' : Hp}, Same H3 H' → Same H H' := fun s' => (sH.trans s03).trans s'
  have gdA : ∀ m, m ≤ chs.length → Good (atC cs (chs.take m)).1 (atC cs (chs.take m)).2 := fun m hm => hO.f.good hO.g m hm
  have ecol : colsAt cs chs .non = (atC cs (chs.take chs.length)).1 := by
    show (atC cs (chs.take (chs.length : Int).toNat)).1 = _
    rw [show ((chs.length : Nat) : Int).toNat = chs.length from rfl]
  have ecolm : ∀ m : Nat, colsAt cs chs (.int (m : Nat)) = (atC cs (chs.take m)).1 := fun m => by
    show (atC cs (chs.take ((m : Nat) : Int).toNat)).1 = _
    rw [Int.toNat_natCast]
  try dsimp only
  -- twice told the same
  refine ⟨_, rfl, by decide, by decide, ?_⟩
  refine for_range (lo := 0) (n := (2 : Int).toNat) (fun i σ H' => Same H3 H' ∧ ∃ x5 x6 x7 x8 x9 x10 : Option V, σ = [some (.ref a), some (.int kI), some (.ref p), some (.ref h), some (.ref h2), x5, x6, x7, x8, x9, x10]) ⟨Same.refl _, _, _, _, _, _, _, rfl⟩ ?_ ?_
  · rintro tn σ H4 htn ⟨s4, x5, x6, x7, x8, x9, x10, rfl⟩
    have hH4 := hH.keep s4
    have hL4 := hL3.keep s4
    obtain ⟨dx1, fs1, hi1, no1⟩ := histMx "first_columns" (by decide +kernel) hH4
    obtain ⟨_, _, hi2, no2⟩ := histMx "columns" (by decide +kernel) hH4
    obtain ⟨_, _, hi3, no3⟩ := histMx "changes_told" (by decide +kernel) hH4
    obtain ⟨_, _, hi4, no4⟩ := histMx "numbers" (by decide +kernel) hH4
    refine ⟨_, rfl, h2, dx1, fs1, rfl, hi1, no1, h2, cs, chs, rfl, hH4, fun l1 as1 H5 n1 s5 hl1 hc1 => ?_⟩
    obtain ⟨shA, esA, eA, asA, a1, a2, a3, a4, a5, a6⟩ := (hL4.keep s5).sheet (m := 0) (Nat.zero_le _)
    have a6 : LCols K H5 asA cs := a6
    refine ⟨_, rfl, h, .ref shA, rfl, a1, shA, _, 0, _, rfl, rfl, sqL_of a2, ix_int (by decide) (by rw [List.getElem?_map]; show esA[0]?.map V.ref = _; rw [a4]; rfl), eA, asA, cs, rfl, a5, a6, by rw [a6.len]; omega, okc, fun l2 as2 H6 n2 s6 hl2 hc2 => ?_⟩
    refine ne_cols (s6 _ _ hl1) hl2 (hc1.keep s6) hc2 va fun H7 s7 => ⟨_, rfl, iteF ?_⟩
    have s47 := (s5.trans s6).trans s7
    have s37 := s4.trans s47
    clear hl1 hc1 hl2 hc2 a1 a2 a4 a5 a6
    refine ⟨_, rfl, h2, _, _, rfl, s47 _ _ hi2, no2, h2, cs, chs, .non, rfl, hH.keep s37, few1, .inl rfl, fun l3 as3 H8 n3 s8 hl3 hc3 => ?_⟩
    rw [ecol] at hc3
    have gE := gdA chs.length (Nat.le_refl _)
    obtain ⟨shB, esB, eB, asB, b1, b2', b3, b4, b5, b6⟩ := (hL3.keep (s37.trans s8)).sheet (m := chs.length) (Nat.le_refl _)
    have g6 := gE.six
    refine ⟨_, rfl, h, .ref shB, rfl, b1, _, rfl, shB, _, -1, .ref eB, rfl, rfl, sqL_of b2', at_last b3 b4, eB, asB, _, rfl, b5, b6, by rw [b6.len]; omega, fun c hc => (gE.ok c hc).1, fun l4 as4 H9 n4 s9 hl4 hc4 => ?_⟩
    refine ne_cols (s9 _ _ hl3) hl4 (hc3.keep s9) hc4 (ok_vals gE) fun HA sA => ⟨_, rfl, iteF (nxt ?_)⟩
    have s4A := ((s47.trans s8).trans s9).trans sA
    have s3A := s4.trans s4A
    clear hl3 hc3 hl4 hc4 b1 b2' b4 b5 b6
    try dsimp only
    have hHA := hH.keep s3A
    refine ⟨_, rfl, h2, _, _, rfl, s4A _ _ hi3, no3, h2, cs, chs, rfl, hHA, fun l5 ts5 HB n5 sB hl5 hc5 => ?_⟩
    have s3B := s3A.trans sB
    obtain ⟨sh, ch, es, ts, q1, q2, q3, q4, q5⟩ := id (hL3.keep s3B)
    refine ⟨_, rfl, h, .ref ch, rfl, (lat_get q1).2.1, chsPD chs, chsPD chs, dp_chs (sqL_of hl5) hc5 fa, dp_chs (sqL_of q4) q5 fa, chs_shaped fa, chs_shaped fa, _, rfl, ?_⟩
    rw [show PyData.eqv (chsPD chs) (chsPD chs) = true from chs_eqv fa]
    refine iteF ?_
    have hHB := hH.keep s3B
    refine ⟨_, rfl, h2, _, _, rfl, sB _ _ (s4A _ _ hi3), h2, cs, chs, rfl, hHB, _, rfl, ⟨by omega, by omega⟩, _, rfl, h, .ref ch, rfl, (lat_get q1).2.1, _, chs.length, rfl, .inl ⟨_, sqL_of q4, by rw [List.length_map, q5.len]⟩, rfl, _, rfl, iteNS rfl ?_⟩
    refine ⟨_, rfl, h2, _, _, rfl, sB _ _ (s4A _ _ hi4), no4, h2, cs, chs, rfl, hHB, hO, _, rfl, h, _, rfl, (lat_get q1).2.2, rfl, _, rfl, iteNS rfl (nxt ?_)⟩
    try dsimp only
    refine ⟨_, rfl, h, .ref sh, rfl, (lat_get q1).1, _, es.length, rfl, .inl ⟨_, sqL_of q2, by rw [List.length_map]⟩, _, rfl, by omega, by have := q3.len; rw [edsTo_len] at this; omega, ?_⟩
    have hel : es.length = chs.length + 1 := by rw [q3.len, edsTo_len]
    rw [hel]
    refine for_range (lo := 0) (n := (((chs.length + 1 : Nat)) : Int).toNat) (fun i σ H' => Same H3 H' ∧ ∃ x5 x6 x7 x8 x9 x10 : Option V, σ = [some (.ref a), some (.int kI), some (.ref p), some (.ref h), some (.ref h2), x5, x6, x7, x8, x9, x10]) ⟨s3B, _, _, _, _, _, _, rfl⟩ ?_ ?_
    · rintro m σ H4 hm ⟨s4, x5, x6, x7, x8, x9, x10, rfl⟩
      rw [show (0 : Int) + (m : Int) = (m : Int) from Int.zero_add _]
      have hmle : m ≤ chs.length := by omega
      have hed : isEd chs.length (.int (m : Nat)) = true := by
        show (decide ((0 : Int) ≤ (m : Nat)) && decide (((m : Nat) : Int) ≤ (chs.length : Nat))) = true
        rw [decide_eq_true (by omega : (0 : Int) ≤ (m : Nat)), decide_eq_true (by omega : ((m : Nat) : Int) ≤ (chs.length : Nat))]
        rfl
      obtain ⟨dxc, fsc, hi2, no2⟩ := histMx "columns" (by decide +kernel) (hH.keep s4)
      have gM := gdA m hmle
      have g6 := gM.six
      refine ⟨_, rfl, h2, _, _, rfl, hi2, no2, _, rfl, h2, cs, chs, .int (m : Nat), rfl, hH.keep s4, few1, .inr hed, fun l1 as1 H5 n1 s5 hl1 hc1 => ?_⟩
      rw [ecolm] at hc1
      obtain ⟨shA, esA, eA, asA, a1, a2, a3, a4, a5, a6⟩ := (hL3.keep (s4.trans s5)).sheet (m := m) hmle
      refine ⟨_, rfl, h, .ref shA, rfl, a1, _, rfl, shA, _, _, .ref eA, rfl, rfl, sqL_of a2, ix_int (by omega) (by rw [List.getElem?_map]; show esA[((m : Nat) : Int).toNat]?.map V.ref = _; rw [Int.toNat_natCast, a4]; rfl), eA, asA, _, rfl, a5, a6, by rw [a6.len]; omega, fun c hc => (gM.ok c hc).1, fun l2 as2 H6 n2 s6 hl2 hc2 => ?_⟩
      refine ne_cols (s6 _ _ hl1) hl2 (hc1.keep s6) hc2 (ok_vals gM) fun H7 s7 => ⟨_, rfl, iteF ?_⟩
      have s47 := (s5.trans s6).trans s7
      have s37 := s4.trans s47
      refine ⟨_, rfl, h2, _, _, rfl, s47 _ _ hi2, no2, _, rfl, rfl, rfl, h2, cs, chs, .int (m : Nat), rfl, hH.keep s37, few1, .inr hed, fun l3 as3 H8 n3 s8 hl3 hc3 => ?_⟩
      rw [ecolm] at hc3
      refine ⟨_, rfl, h2, _, _, rfl, s8 _ _ (s47 _ _ hi2), no2, _, rfl, h2, cs, chs, .int (m : Nat), rfl, hH.keep (s37.trans s8), few1, .inr hed, fun l4 as4 H9 n4 s9 hl4 hc4 => ?_⟩
      rw [ecolm] at hc4
      refine ne_cols (s9 _ _ hl3) hl4 (hc3.keep s9) hc4 (ok_vals gM) fun HA sA => ⟨_, rfl, iteF (nxt ?_)⟩
      have s4A := ((s47.trans s8).trans s9).trans sA
      have s3A := s4.trans s4A
      try dsimp only
      refine ⟨_, rfl, h2, _, _, rfl, s4A _ _ hi2, no2, _, rfl, h2, cs, chs, .int (m : Nat), rfl, hH.keep s3A, few1, .inr hed, fun l5 as5 HB n5 sB hl5 hc5 => ?_⟩
      rw [ecolm] at hc5
      have hz : sizeLine = 16777216 := by decide
      have hz5 : (as5.map V.ref).length < sizeLine := by
        rw [List.length_map, hc5.len]
        omega
      exact ⟨.inl ⟨rfl, _, sqL_of hl5⟩, l5, _, _, rfl, rfl, hl5, hz5, nxt ⟨same_mut (s3A.trans sB) (s3A.free n5), _, _, _, _, _, _, rfl⟩⟩
    rintro σ H4 ⟨s4, x5, x6, x7, x8, x9, x10, rfl⟩
    try dsimp only
    obtain ⟨dx1, fs1, hi1, no1⟩ := histMx "first_columns" (by decide +kernel) (hH.keep s4)
    obtain ⟨_, _, hi3, no3⟩ := histMx "changes_told" (by decide +kernel) (hH.keep s4)
    refine ⟨_, rfl, h2, _, _, rfl, hi1, no1, h2, cs, chs, rfl, hH.keep s4, fun l1 as1 H5 n1 s5 hl1 hc1 => ?_⟩
    refine ⟨_, rfl, h2, _, _, rfl, s5 _ _ hi3, no3, h2, cs, chs, rfl, hH.keep (s4.trans s5), fun l2 ts2 H6 n2 s6 hl2 hc2 => ?_⟩
    have l1c := hc1.len
    have l2c := hc2.len
    refine ⟨by show 2 ≤ sizeLine; decide, fun L nL => ⟨L, rfl, ⟨_, sqL_of upd_same⟩, ?_⟩⟩
    have sL := same_new (o := .lst [.ref l1, .ref l2]) nL
    have f1 : H3 l1 = none := s4.free n1
    have f2 : H3 l2 = none := (s4.trans s5).free n2
    have nL1 : L ≠ l1 := fun e => by rw [e, s6 _ _ hl1] at nL; cases nL
    have nL2 : L ≠ l2 := fun e => by rw [e, hl2] at nL; cases nL
    refine for_list (xs := [.ref l1, .ref l2]) (fun i σ H' => Same H3 H' ∧ H' L = some (.lst [.ref l1, .ref l2]) ∧ (∃ zs, H' l1 = some (.lst zs) ∧ zs.length ≤ 1000 + i) ∧ (∃ zs, H' l2 = some (.lst zs) ∧ zs.length ≤ 1000 + i) ∧ ∃ x5 x6 x7 x8 x9 x10 : Option V, σ = [some (.ref a), some (.int kI), some (.ref p), some (.ref h), some (.ref h2), x5, x6, x7, x8, x9, x10])
      ⟨((s4.trans s5).trans s6).trans sL, upd_same, ⟨_, sL _ _ (s6 _ _ hl1), by rw [List.length_map]; omega⟩, ⟨_, sL _ _ hl2, by rw [List.length_map]; omega⟩, _, _, _, _, _, _, rfl⟩ (fun i σ H' _ q => sqL_of q.2.1) ?_ ?_
    · rintro i x σ H7 hx ⟨s7, hL7, ⟨zs1, h1, z1⟩, ⟨zs2, h2', z2⟩, x5, x6, x7, x8, x9, x10, rfl⟩
      have hi2 : i < 2 := (List.getElem?_eq_some_iff.mp hx).1
      have hz : sizeLine = 16777216 := by decide
      rcases List.mem_cons.mp (List.mem_of_getElem? hx) with rfl | hv
      · refine ⟨_, rfl, .inl ⟨rfl, _, sqL_of h1⟩, l1, _, _, rfl, rfl, h1, by omega, nxt ⟨same_mut s7 f1, by rw [upd_ne nL1]; exact hL7, ⟨_, upd_same, by rw [List.length_append]; show zs1.length + 1 ≤ 1000 + (i + 1); omega⟩, ?_, _, _, _, _, _, _, rfl⟩⟩
        by_cases e : l2 = l1
        · exact ⟨_, by rw [e]; exact upd_same, by rw [List.length_append]; show zs1.length + 1 ≤ 1000 + (i + 1); omega⟩
        · exact ⟨_, by rw [upd_ne e]; exact h2', by omega⟩
      rcases List.mem_cons.mp hv with rfl | hv
      · refine ⟨_, rfl, .inl ⟨rfl, _, sqL_of h2'⟩, l2, _, _, rfl, rfl, h2', by omega, nxt ⟨same_mut s7 f2, by rw [upd_ne nL2]; exact hL7, ?_, ⟨_, upd_same, by rw [List.length_append]; show zs2.length + 1 ≤ 1000 + (i + 1); omega⟩, _, _, _, _, _, _, rfl⟩⟩
        by_cases e : l1 = l2
        · exact ⟨_, by rw [e]; exact upd_same, by rw [List.length_append]; show zs2.length + 1 ≤ 1000 + (i + 1); omega⟩
        · exact ⟨_, by rw [upd_ne e]; exact h1, by omega⟩
      · cases hv
    · rintro σ H7 ⟨s7, _, _, _, x5, x6, x7, x8, x9, x10, rfl⟩
      exact nxt ⟨s7, _, _, _, _, _, _, rfl⟩
  rintro σ H4 ⟨s4, x5, x6, x7, x8, x9, x10, rfl⟩
  try dsimp only
  have hz : sizeLine = 16777216 := by decide
  have gE := gdA chs.length (Nat.le_refl _)
  obtain ⟨le3, _, _⟩ := col3 hO nms nch
  have hH4 := hH.keep s4
  obtain ⟨dz, g2, hi2⟩ := histNo hH4
  -- its changes one by one
  refine pl_ifop ?_
  refine tlc_GR (fun i y H' => ∃ t c, y = .ref t ∧ chs[i]? = some c ∧ ChAt K H' t c) chs.length (fun i y H1 H2 s2 ⟨t, c, e1, e2, e3⟩ => ⟨t, c, e1, e2, chAt_keepNL s2 e3⟩) (fun R hR => ⟨_, rfl, h2, _, _, rfl, hi2, h2, cs, chs, rfl, hH4, _, rfl, ⟨by omega, by omega⟩, hR H4 (Same.refl _)⟩) (by omega) (fun _ => rfl) ?_ ?_
  · intro i hi H' s' R hR
    exact ⟨_, rfl, _, rfl, h2, _, _, rfl, s' _ _ hi2, h2, cs, chs, i, rfl, hH4.keep s', hi, fun t ch hch hat => hR _ _ (Same.refl _) ⟨t, ch, rfl, hch, hat⟩⟩
  intro D ys H5 nD s5 hD hlenD hy
  obtain ⟨ts5, rfl, hc5⟩ := chs_of_vs hlenD hy
  have s35 := s4.trans s5
  have hL5 := hL3.keep s35
  obtain ⟨sh, ch, es, ts, q1, q2, q3, q4, q5⟩ := id hL5
  refine ⟨_, rfl, h, .ref ch, rfl, (lat_get q1).2.1, chsPD chs, chsPD chs, dp_chs (sqL_of hD) hc5 fa, dp_chs (sqL_of q4) q5 fa, chs_shaped fa, chs_shaped fa, _, rfl, ?_⟩
  rw [show PyData.eqv (chsPD chs) (chsPD chs) = true from chs_eqv fa]
  refine iteF (nxt ?_)
  try dsimp only
  clear hD hc5 hy
  -- columns with other numbers
  obtain ⟨shA, esA, eA, asA, a1, a2, a3, a4, a5, a6⟩ := hL5.sheet (m := 0) (Nat.zero_le _)
  have a6 : LCols K H5 asA cs := a6
  refine q_asgX (tlc_G (K := K) (xs := asA.map V.ref) (fun i y H' => ∃ a c, y = .ref a ∧ (sevC cs)[i]? = some c ∧ ColA K H' a c) (fun i y H1 H2 s2 ⟨a, c, h1, h2, h3⟩ => ⟨a, c, h1, h2, h3.keepNL s2⟩) (fun R hR => ⟨_, rfl, h, .ref shA, rfl, a1, shA, _, 0, _, rfl, rfl, sqL_of a2, ix_int (by decide) (by rw [List.getElem?_map]; show esA[0]?.map V.ref = _; rw [a4]; rfl), hR eA H5 (Same.refl _) (sqL_of a5)⟩) (by rw [List.length_map, a6.len]; omega) (fun _ => rfl) ?_ ?_)
  · intro i x hx H1 s1 R hR
    rw [List.getElem?_map] at hx
    cases ha : asA[i]? with
    | none =>
      rw [ha] at hx
      cases hx
    | some a =>
      rw [ha] at hx
      obtain rfl := Option.some.inj hx
      obtain ⟨c, hci, hat⟩ := a6.at_ ha
      have ok := okc c (List.mem_of_getElem? hci)
      have h1 := sqT_of (K := K) (hat.keep s1)
      refine ⟨_, rfl, a, _, 0, _, rfl, rfl, h1, rfl, _, rfl, a, _, 1, _, rfl, rfl, h1, rfl, _, rfl, a, _, 2, _, rfl, rfl, h1, rfl, rfl, rfl, fun x dx2 nx ndx ndc => ?_⟩
      refine ⟨x, dx2, c.name, c.top, 7, c.dflt, rfl, upd_same, ok.nm, ok.gr, ok.df, by decide, fun H4 hc4 k4 => ⟨rfl, ?_⟩⟩
      exact hR _ _ (fun b o e => k4 b o (ne_of_none e nx) (by rw [upd_ne (ne_of_none e nx), upd_ne (ne_of_none e ndx)]; exact e)) ⟨x, { c with num := 7 }, rfl, by rw [List.getElem?_map, hci]; rfl, hc4⟩
  intro l7 ys H6 n7 s6 hl7 hlen7 hy7
  obtain ⟨as7, rfl, hc7⟩ := Cols.of_vs (cs := sevC cs) (by rw [hlen7, List.length_map, a6.len]; show cs.length = (cs.map _).length; rw [List.length_map]) hy7
  have ok7 : ∀ c ∈ sevC cs, ColOk c := fun c hc => by
    obtain ⟨d, hd, rfl⟩ := List.mem_map.mp hc
    have o := okc d hd
    exact ⟨o.nm, o.gr, o.df, by show (0 : Int) ≤ 7; decide⟩
  have nb7 : numb (sevC cs) = cs := numb7 hO.pl
  have s36 := s35.trans s6
  clear a1 a2 a4 a5 hy7
  try dsimp only
  -- a History of these
  refine ⟨_, rfl, _, rfl, h, .ref ch, rfl, (lat_get (s6 _ _ q1)).2.1, ch, _, rfl, .inl ⟨sqL_of (s6 _ _ q4), fun tl ntl => fun x dx nx ndx ndc => ?_⟩⟩
  have st : Same H6 (upd H6 tl (.tup (ts.map V.ref))) := same_new ntl
  have htl : upd H6 tl (.tup (ts.map V.ref)) tl = some (.tup (ts.map V.ref)) := upd_same
  generalize upd H6 tl (.tup (ts.map V.ref)) = H7 at st htl nx ndx ndc
  have sx : Same H7 (upd (upd H7 dx (.own x)) x (.ins (He.ga K "History") dx [])) := fun b o e => by
    rw [upd_ne (ne_of_none e nx), upd_ne (ne_of_none e ndx)]
    exact e
  have s67 := s6.trans st
  refine ⟨x, dx, l7, tl, as7, ts, _, chs, true, rfl, upd_same, sx _ _ (st _ _ hl7), (hc7.keep st).keep sx, sqT_of (sx _ _ htl), (q5.keep s67).keep sx, ok7, by rw [nb7]; exact hO, fun H8 hN kp => ⟨rfl, ?_⟩⟩
  rw [nb7] at hN
  have s78 : Same H7 H8 := fun b o e => kp b o (ne_of_none e nx) (sx _ _ e)
  have s38 := (s36.trans st).trans s78
  obtain ⟨dy, gs, hi1⟩ := histNo hN.at_
  obtain ⟨dz, g2, hi2⟩ := histNo (hH.keep s38)
  refine ⟨_, rfl, x, dy, gs, h2, dz, g2, rfl, rfl, hi1, hi2, x, h2, cs, cs, chs, chs, rfl, hN.at_, hH.keep s38, va, va, fa, fa, fun H9 s9 => ⟨_, rfl, ?_⟩⟩
  rw [histEq_self hO.f]
  refine ⟨_, rfl, iteF ?_⟩
  have s39 := s38.trans s9
  have s69 := ((st.trans s78).trans s9)
  have hl79 := s69 _ _ hl7
  have hc79 := hc7.keep s69
  obtain ⟨sh, ch, es, ts, q1, q2, q3, q4, q5⟩ := id (hL3.keep s39)
  refine ⟨_, rfl, _, rfl, h2, dz, g2, h, _, rfl, rfl, s9 _ _ hi2, q1, h2, .ref h, "dict", rfl, .dK q1, by decide, _, rfl, _, rfl, iteF ?_⟩
  refine ⟨_, rfl, _, rfl, h, cs, chs, rfl, hL3.keep s39, hO, fun h5 HA nh5 sA hQ5 => ?_⟩
  have s3A := s39.trans sA
  obtain ⟨dy5, gs5, hi5⟩ := histNo hQ5.at_
  refine ⟨h2, dz, g2, h5, dy5, gs5, rfl, rfl, sA _ _ (s9 _ _ hi2), hi5, h2, h5, cs, cs, chs, chs, rfl, hH.keep s3A, hQ5.at_, va, va, fa, fa, fun HB sB => ⟨_, rfl, ?_⟩⟩
  rw [histEq_self hO.f]
  refine ⟨_, rfl, iteF (nxt ?_)⟩
  have s3B := s3A.trans sB
  have hl7B := sB _ _ (sA _ _ hl79)
  have hc7B := (hc79.keep sA).keep sB
  clear hl7 hc7 hl79 hc79 hN kp sx s78 st htl q1 q2 q3 q4 q5
  try dsimp only
  refine ⟨_, rfl, _, rfl, h, h2, cs, chs, rfl, hL3.keep s3B, hH.keep s3B, hO, fun HC sC => ⟨_, rfl, iteF ?_⟩⟩
  have s3C := s3B.trans sC
  refine ⟨_, rfl, _, rfl, h, h2, cs, chs, rfl, hL3.keep s3C, hH.keep s3C, hO, fun HD sD => ⟨_, rfl, iteF (nxt ?_)⟩⟩
  have s3D := s3C.trans sD
  have hl7D := sD _ _ (sC _ _ hl7B)
  have hc7D := (hc7B.keep sC).keep sD
  try dsimp only
  -- one change more
  obtain ⟨shB, esB, eB, asB, b1, b2', b3, b4, b5, b6⟩ := (hL3.keep s3D).sheet (m := chs.length) (Nat.le_refl _)
  have lB : asB.length ≤ 3 := by
    rw [b6.len, List.take_length]
    exact le3
  obtain ⟨sh, ch, es, ts, q1, q2, q3, q4, q5⟩ := id (hL3.keep s3D)
  refine q_asgX ⟨_, rfl, h, .ref shB, rfl, b1, _, rfl, shB, _, -1, .ref eB, rfl, rfl, sqL_of b2', at_last b3 b4, _, asB.length, rfl, .inl ⟨_, sqL_of b5, by rw [List.length_map]⟩, _, _, rfl, rfl, _, rfl, iteDT (by omega) ?_⟩
  obtain ⟨fz, oz⟩ := zz_ok hO (by omega) nms nch
  refine ⟨_, rfl, _, rfl, h, .ref ch, rfl, (lat_get q1).2.1, by show 4 ≤ sizeLine; decide, fun t nt => ⟨by show 1 ≤ sizeLine; decide, fun p3 n3 => ⟨ch, p3, _, _, rfl, rfl, same_new n3 _ _ (same_new nt _ _ q4), upd_same, ?_, fun r nr => fun x dx nx ndx ndc => ?_⟩⟩⟩
  · rw [List.length_map, q5.len]
    show chs.length + 1 ≤ sizeLine
    omega
  have eT : ts.map V.ref ++ [.ref t] = (ts ++ [t]).map V.ref := by
    rw [List.map_append]
    rfl
  rw [eT] at nx ndx
  rw [eT]
  have s1 := same_new (o := .tup [.str "add", .str "zz", .int 1, .int 0]) nt
  have ht1 : ChAt K (upd HD t (.tup [.str "add", .str "zz", .int 1, .int 0])) t zzCh := sqT_of upd_same
  have s2 : Same HD (upd (upd (upd HD t (.tup [.str "add", .str "zz", .int 1, .int 0])) p3 (.lst [.ref t])) r (.lst ((ts ++ [t]).map V.ref))) := (s1.trans (same_new n3)).trans (same_new nr)
  have ht2 := (ht1.keep (same_new (o := .lst [.ref t]) n3)).keep (same_new (o := .lst ((ts ++ [t]).map V.ref)) nr)
  have hr2 : upd (upd (upd HD t (.tup [.str "add", .str "zz", .int 1, .int 0])) p3 (.lst [.ref t])) r (.lst ((ts ++ [t]).map V.ref)) r = some (.lst ((ts ++ [t]).map V.ref)) := upd_same
  generalize upd (upd (upd HD t (.tup [.str "add", .str "zz", .int 1, .int 0])) p3 (.lst [.ref t])) r (.lst ((ts ++ [t]).map V.ref)) = HE at s2 ht2 hr2 nx ndx ndc
  have hcE : Chs K HE (ts ++ [t]) (chs ++ [zzCh]) := (q5.keep s2).app (.cons ht2 .nil)
  have sx : Same HE (upd (upd HE dx (.own x)) x (.ins (He.ga K "History") dx [])) := fun b o e => by
    rw [upd_ne (ne_of_none e nx), upd_ne (ne_of_none e ndx)]
    exact e
  refine ⟨x, dx, l7, r, as7, ts ++ [t], _, chs ++ [zzCh], false, rfl, upd_same, sx _ _ (s2 _ _ hl7D), (hc7D.keep s2).keep sx, sqL_of (sx _ _ hr2), hcE.keep sx, ok7, by rw [nb7]; exact oz, fun HF hN kp => ⟨rfl, ?_⟩⟩
  rw [nb7] at hN
  have sEF : Same HE HF := fun b o e => kp b o (ne_of_none e nx) (sx _ _ e)
  have s3F := (s3D.trans s2).trans sEF
  have fz2 := fits_all oz.f
  obtain ⟨dy, gs, hi1⟩ := histNo hN.at_
  obtain ⟨dz, g2, hi2⟩ := histNo (hH.keep s3F)
  try dsimp only
  refine ⟨_, rfl, _, rfl, x, dy, gs, h2, dz, g2, rfl, rfl, hi1, hi2, x, h2, cs, cs, _, chs, rfl, hN.at_, hH.keep s3F, va, va, fz2, fa, fun HG sG => ⟨_, rfl, ?_⟩⟩
  rw [histEq_more]
  refine ⟨_, rfl, iteF ?_⟩
  have s3G := s3F.trans sG
  clear hN kp sx sEF hcE hr2 ht2
  -- another column
  obtain ⟨okn, on⟩ := nine_ok
  refine fun c dc nc ndc' nec => ?_
  have sc : Same HG (upd (upd HG dc (.own c)) c (.ins (He.ga K "Column") dc [])) := fun b o e => by
    rw [upd_ne (ne_of_none e nc), upd_ne (ne_of_none e ndc')]
    exact e
  refine ⟨c, dc, "a", 9, 0, .non, rfl, upd_same, okn.nm, okn.gr, okn.df, okn.nu, fun HI hcI kpI => ⟨rfl, ?_⟩⟩
  have sGI : Same HG HI := fun b o e => kpI b o (ne_of_none e nc) (sc _ _ e)
  refine ⟨by show 1 ≤ sizeLine; decide, fun l nl => fun y dy ny ndy ney => ?_⟩
  have sl := same_new (o := .lst [.ref c]) nl
  have hll : upd HI l (.lst [.ref c]) l = some (.lst ([c].map V.ref)) := upd_same
  have hcJ : Cols K (upd HI l (.lst [.ref c])) [c] [nine] := .cons (ColA.keep sl hcI) .nil
  generalize upd HI l (.lst [.ref c]) = HJ at sl hll hcJ ny ndy ney
  have sy : Same HJ (upd (upd HJ dy (.own y)) y (.ins (He.ga K "History") dy [])) := fun b o e => by
    rw [upd_ne (ne_of_none e ny), upd_ne (ne_of_none e ndy)]
    exact e
  refine ⟨y, dy, l, He.dflAt ("History", some "__init__") 0 K, [c], [], [nine], [], true, rfl, upd_same, sy _ _ hll, hcJ.keep sy, hT0 _, .nil, (fun d hd => by rw [List.mem_singleton.mp hd]; exact okn), by rw [numb_placed on.pl]; exact on, fun HK hN kp => ⟨rfl, ?_⟩⟩
  rw [numb_placed on.pl] at hN
  have sJK : Same HJ HK := fun b o e => kp b o (ne_of_none e ny) (sy _ _ e)
  have s3K := ((s3G.trans sGI).trans sl).trans sJK
  obtain ⟨dy, gs, hi1⟩ := histNo hN.at_
  obtain ⟨dz, g2, hi2⟩ := histNo (hH.keep s3K)
  refine ⟨_, rfl, y, dy, gs, h2, dz, g2, rfl, rfl, hi1, hi2, y, h2, [nine], cs, [], chs, rfl, hN.at_, hH.keep s3K, ok_vals on.g, va, fits_all on.f, fa, fun HM sM => ⟨_, rfl, ?_⟩⟩
  rw [nine_ne hO.g.one tops]
  exact ⟨_, rfl, iteF (nxt ⟨back (s3K.trans sM), _, _, _, _, _, _, _, _, _, _, rfl⟩)⟩
end
theorem factsR {w : World} {K : PySem.W.Frag} {h : Heap} {mg : Str → Option Value} {f : Addr} (X : K.In h) (G : h.Ns mainGlobals mg) (hfa : mg ("law" : Str) = some (.ref f)) (c : He.SaysD fal fnl K ∧ exl K = true) :
    LawOk PySem.Challenge.rw_editionrows_k06_whole_histories w mg CX0 14 63 "_law_script" f K := by
  have T : Tx K mg := ⟨c.1, c.2, h, X, G⟩
  obtain ⟨fd, F⟩ := fd_law T
  have e := hfa.symm.trans (mg_law T)
  cases e
  have b := FunD.bindsA (ps := ["_law_script"]) F fun _ _ _ _ _ _ us hl => match us, hl with | [_], _ => rfl
  exact ⟨fd, sp_law K, fun s v => b s [v] rfl, fun H a ns hl hb _ hS => ⟨a, ns, rfl, hS, hl, hb, fun _ => rfl⟩, fun base _ _ => ok_law T F⟩
end ER
open PySem PySem.W PySem.Calls PyProof.Rows
set_option maxRecDepth 100000 in
set_option maxHeartbeats 8000000 in
theorem PySem.Challenge.cw_editionrows_k06_whole_histories_holds : PySem.Challenge.rw_editionrows_k06_whole_histories.Holds := by
  w_on; o_law
  refine HandSHeadRun.head_any (r := OpenLaw.row PySem.Challenge.rw_editionrows_k06_whole_histories) (q := view (OpenLaw.row PySem.Challenge.rw_editionrows_k06_whole_histories).prog [66]) (H := ER.hkR) (ob := ER.obR) (M := 9000) (loose := ER.looseR) (d := HandSHeadRun.topDef (OpenLaw.row PySem.Challenge.rw_editionrows_k06_whole_histories).prog 66) (kwd := []) ER.obR_eq
    (by kernel_rfl) (fun s => by kernel_rfl) ER.runR (by kernel_rfl) (by kernel_rfl) (by kernel_rfl) (by rfl) (by first | assumption | decide +kernel) (by decide +kernel) ⟨rfl, rfl, rfl, rfl, rfl, by decide +kernel⟩ ?hw ?hc
  case hw => w_witness2
  case hc =>
    refine Evl2.walk_bits (l := PySem.Challenge.rw_editionrows_k06_whole_histories) (n := 63) (k := 14) (x := "_law_script") (CX := L2.CX0) rfl (by decide) (by kernel_rfl) ⟨rfl, by decide, by decide⟩ ?F (fun _ _ _ _ z => z)
    intro w mg fa h Y G hmg0
    obtain ⟨K, KX, c⟩ := Y
    have hmg : mg ("law" : PySem.Str) = some (.ref fa) := by
      have e : (HandSHeadRun.topDef (OpenLaw.row PySem.Challenge.rw_editionrows_k06_whole_histories).prog 66).name = ("law" : PySem.Str) := by kernel_rfl
      rw [← e]
      exact hmg0
    exact ⟨K, KX, ER.factsR (w := w) KX G hmg c⟩

