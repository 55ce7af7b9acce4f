/- Keys of the masked lines: unlike ones, but for two families. -/
import Derived.Test.YtlchkflpaehgcaaGreatDoorCa
namespace Go.Proofs.YtlchkflpaehgcaaGreatDoor

def keyL (n : Nat) : Nat := (471802431176735218924903072444359488314652595145404532442259606052558615857134561543567539510040371805631349100806109950129863566490560163763791758308377950689128575396174814270310315813619190864011019332001049010960026120116300590725470570277098688234735320037497065178428343885016276930886522637927555676070879175850440400323454310744065726581544842928793470009559463718732250900469262665653007628985692499480322134316563011395094781667233310803213104561395152713287866421161865664156735617273853632970309709186961093868268400132152366155003727408040320185363970170989918146385184729070427069664316056024932042935634345757723334907604863191043587771651156303516149597158680301804655544735262145795579143375351397374807655493747691360938655117505341834238106332944913084711988636756540172261453214941533923319661164865944479026631392530114564666365766848673173499052418896765966691795292816267916074109206924119567404289673851160045290869530743032998593137740122583786384076855073628303964087215028799351050012780464727437918168643416760209307331509361300431399701615483175562612453805212787266406610923383091009268840936653183891991387001908783089129703298333414768925329155735875763988007923974183568453007095260546376288933357702322903446892436948530843979813231946117584412866431490442984384800119622140193414078556206500319409276058896320323421124271048553336577339021856505868808412906475958240570429181400163435959500496838874719916804532968329114431328091696410043111680526318670125758427251026666386994322947637107258664023015736000555236696205292415139479589352775267341033154722625511119258966769136546440589567266618458934271685302860526580320181154012950945759750214720998012259326551174460389993209720085150166022347244222408589067338364355726263339543022690294441404226848703007658453218956854866695455255070973607245000044947889972095854053519384588136003355108253368137745695739586893011465917450778299282840770152481280159104929241945363282231906009373307921357867559040449562642504167885857210881160394554149006118365955054809222603859409750983291245099773385950581753552784918601802461640116188980001847358164426972125213282354007377533601088345282589937697996809519311068162399395354168213386754836251322847110420165710260687682446926618471009666109638140500057374951479656074087131751434504691635872330784517238427015602589919901881376744770302137525950924045124422250383181193748775211556750274977992553233392021034708159507284449885143225152 >>> (16 * n)) % 65536
def dbN (n : Nat) : Bool := (21739673434083176605741627819400754402046506019618112808726253220789391196160 >>> n) % 2 == 1
def rstN (n : Nat) : Bool := (58123087930888129464367125721500223793912066631495729003095957867143075201024 >>> n) % 2 == 1
def far (a b : Nat) : Bool := !(keyL a == keyL b) || (a == b || (dbN a && dbN b) || (rstN a && rstN b))
theorem far0 : ∀ a : Fin 32, ∀ b : Fin 512, far (0 + a.val) b.val = true := by decide +kernel
theorem far1 : ∀ a : Fin 32, ∀ b : Fin 512, far (32 + a.val) b.val = true := by decide +kernel
theorem far2 : ∀ a : Fin 32, ∀ b : Fin 512, far (64 + a.val) b.val = true := by decide +kernel
theorem far3 : ∀ a : Fin 32, ∀ b : Fin 512, far (96 + a.val) b.val = true := by decide +kernel
theorem far4 : ∀ a : Fin 32, ∀ b : Fin 512, far (128 + a.val) b.val = true := by decide +kernel
theorem far5 : ∀ a : Fin 32, ∀ b : Fin 512, far (160 + a.val) b.val = true := by decide +kernel
theorem far6 : ∀ a : Fin 32, ∀ b : Fin 512, far (192 + a.val) b.val = true := by decide +kernel
theorem far7 : ∀ a : Fin 32, ∀ b : Fin 512, far (224 + a.val) b.val = true := by decide +kernel
theorem far8 : ∀ a : Fin 32, ∀ b : Fin 512, far (256 + a.val) b.val = true := by decide +kernel
theorem far9 : ∀ a : Fin 32, ∀ b : Fin 512, far (288 + a.val) b.val = true := by decide +kernel
theorem far10 : ∀ a : Fin 32, ∀ b : Fin 512, far (320 + a.val) b.val = true := by decide +kernel
theorem far11 : ∀ a : Fin 32, ∀ b : Fin 512, far (352 + a.val) b.val = true := by decide +kernel
theorem far12 : ∀ a : Fin 32, ∀ b : Fin 512, far (384 + a.val) b.val = true := by decide +kernel
theorem far13 : ∀ a : Fin 32, ∀ b : Fin 512, far (416 + a.val) b.val = true := by decide +kernel
theorem far14 : ∀ a : Fin 32, ∀ b : Fin 512, far (448 + a.val) b.val = true := by decide +kernel
theorem far15 : ∀ a : Fin 32, ∀ b : Fin 512, far (480 + a.val) b.val = true := by decide +kernel
theorem apart_key (a b : Nat) (ha : a < 512) (hb : b < 512) (h : keyL a = keyL b) : a = b ∨ (dbN a = true ∧ dbN b = true) ∨ (rstN a = true ∧ rstN b = true) := by
  have f : far a b = true := by
    have c : a / 32 = 0 ∨ a / 32 = 1 ∨ a / 32 = 2 ∨ a / 32 = 3 ∨ a / 32 = 4 ∨ a / 32 = 5 ∨ a / 32 = 6 ∨ a / 32 = 7 ∨ a / 32 = 8 ∨ a / 32 = 9 ∨ a / 32 = 10 ∨ a / 32 = 11 ∨ a / 32 = 12 ∨ a / 32 = 13 ∨ a / 32 = 14 ∨ a / 32 = 15 := by omega
    rcases c with c | c | c | c | c | c | c | c | c | c | c | c | c | c | c | c
    · have := far0 ⟨a - 0, by omega⟩ ⟨b, hb⟩
      simp only at this
      rwa [show 0 + (a - 0) = a by omega] at this
    · have := far1 ⟨a - 32, by omega⟩ ⟨b, hb⟩
      simp only at this
      rwa [show 32 + (a - 32) = a by omega] at this
    · have := far2 ⟨a - 64, by omega⟩ ⟨b, hb⟩
      simp only at this
      rwa [show 64 + (a - 64) = a by omega] at this
    · have := far3 ⟨a - 96, by omega⟩ ⟨b, hb⟩
      simp only at this
      rwa [show 96 + (a - 96) = a by omega] at this
    · have := far4 ⟨a - 128, by omega⟩ ⟨b, hb⟩
      simp only at this
      rwa [show 128 + (a - 128) = a by omega] at this
    · have := far5 ⟨a - 160, by omega⟩ ⟨b, hb⟩
      simp only at this
      rwa [show 160 + (a - 160) = a by omega] at this
    · have := far6 ⟨a - 192, by omega⟩ ⟨b, hb⟩
      simp only at this
      rwa [show 192 + (a - 192) = a by omega] at this
    · have := far7 ⟨a - 224, by omega⟩ ⟨b, hb⟩
      simp only at this
      rwa [show 224 + (a - 224) = a by omega] at this
    · have := far8 ⟨a - 256, by omega⟩ ⟨b, hb⟩
      simp only at this
      rwa [show 256 + (a - 256) = a by omega] at this
    · have := far9 ⟨a - 288, by omega⟩ ⟨b, hb⟩
      simp only at this
      rwa [show 288 + (a - 288) = a by omega] at this
    · have := far10 ⟨a - 320, by omega⟩ ⟨b, hb⟩
      simp only at this
      rwa [show 320 + (a - 320) = a by omega] at this
    · have := far11 ⟨a - 352, by omega⟩ ⟨b, hb⟩
      simp only at this
      rwa [show 352 + (a - 352) = a by omega] at this
    · have := far12 ⟨a - 384, by omega⟩ ⟨b, hb⟩
      simp only at this
      rwa [show 384 + (a - 384) = a by omega] at this
    · have := far13 ⟨a - 416, by omega⟩ ⟨b, hb⟩
      simp only at this
      rwa [show 416 + (a - 416) = a by omega] at this
    · have := far14 ⟨a - 448, by omega⟩ ⟨b, hb⟩
      simp only at this
      rwa [show 448 + (a - 448) = a by omega] at this
    · have := far15 ⟨a - 480, by omega⟩ ⟨b, hb⟩
      simp only at this
      rwa [show 480 + (a - 480) = a by omega] at this
  unfold far at f
  rw [h] at f
  simp only [beq_self_eq_true, Bool.not_true, Bool.false_or, Bool.or_eq_true, Bool.and_eq_true, beq_iff_eq] at f
  rcases f with (f | f) | f
  · exact .inl f
  · exact .inr (.inl f)
  · exact .inr (.inr f)
end Go.Proofs.YtlchkflpaehgcaaGreatDoor
